/- Which of two is ahead, what is chosen, and what stays at home, is the document's. -/
import Derived.Test.YtipfllalfifheaaR6
namespace Go.Proofs.Ytipfllalfifheaa
open Classical
open Go.RowKit Go.Maps

theorem chs_eq (d : Nat) : ∀ (l : List Ch) (b : Ch), chs d b l = chsD d b l
  | [], _ => rfl
  | c :: r, b => by
    show chs d (stp d b c) r = chsD d (stpD d b c) r
    rw [show stp d b c = stpD d b c from by unfold stp stpD; rw [bef_eq]]
    exact chs_eq d r _
theorem cho_eq (d s : Nat) (N : List Nr) (L : List En) : choD d s N L = cho d s N L := (chs_eq d _ _).symm
theorem near_me {s x : Nat} (_hs : s < top) : nearN s x s = false := by
  have h0 : subN s s = 0 := by unfold subN top at *; omega
  have h1 : farN s s = 0 := by unfold farN; rw [h0]; rfl
  rw [Bool.eq_false_iff]
  intro h
  rw [near_iff, h1, h0] at h
  omega
theorem stp_home {s : Nat} (hs : s < top) (c : Ch) : stp s (selfC s) c = selfC s := by
  refine if_neg (fun h => ?_)
  by_cases e : c.id = s
  · rw [bef_eq] at h
    rw [befD_d] at h
    rw [if_pos (show c.id = (selfC s).id from e), if_pos (by simp [selfC])] at h
    simp [selfC] at h
  · rw [bef_near (show c.id ≠ (selfC s).id from e)] at h
    rw [show (selfC s).id = s from rfl, near_me hs] at h
    cases h
theorem chs_home {s : Nat} (hs : s < top) : ∀ l : List Ch, chs s (selfC s) l = selfC s
  | [] => rfl
  | c :: r => by
    show chs s (stp s (selfC s) c) r = _
    rw [stp_home hs c]
    exact chs_home hs r
set_option maxRecDepth 100000 in
set_option maxHeartbeats 4000000 in
theorem routeOrders_any (d : Nat) (a b : Ch) (hd : d < top) (ha : a.ok) (hb : b.ok) (w : World) : Calls Try.prog 4 #[.agg (idA d), .agg (chA a), .agg (chA b)] w (fun e w' => e = .returned (.bool true) ∧ Gro w w') := by
  refine s_enter Try.func4 rfl Try.ntmps4 [.agg (idA d), .agg (chA a), .agg (chA b)] [.agg (idA d), .agg (chA a), .agg (chA b), undef, undef, undef, undef, undef, undef, undef, undef, undef, undef, undef, undef, undef, undef, undef, undef, undef, undef, undef, undef, undef, undef, undef, undef, undef] rfl ?_
  have GG := Gro.refl w
  refine wp_seq ?_
  refine wp_region_lit ?_
  refine s_box 3 rfl rfl 23 _ rfl _ rfl (idA d) rfl ?_
  intro w1 g1 G eg1 kg1
  have bg1 := size_base GG eg1
  replace GG := GG.trans G
  clear G
  clear eg1
  refine nr ?_; intro U h; simp only [z0, z1] at h; subst h
  refine s_box 4 rfl rfl 40 _ rfl _ rfl (chA a) rfl ?_
  intro w2 g2 G eg2 kg2
  have bg2 := size_base GG eg2
  have dg1g2 := lt_new kg1 eg2
  replace kg1 := G.has kg1
  replace GG := GG.trans G
  clear G
  clear eg2
  refine nr ?_; intro U h; simp only [z0, z1] at h; subst h
  refine s_box 5 rfl rfl 40 _ rfl _ rfl (chA b) rfl ?_
  intro w3 g3 G eg3 kg3
  have bg3 := size_base GG eg3
  have dg1g3 := lt_new kg1 eg3
  have dg2g3 := lt_new kg2 eg3
  replace kg1 := G.has kg1
  replace kg2 := G.has kg2
  replace GG := GG.trans G
  clear G
  clear eg3
  refine nr ?_; intro U h; simp only [z0, z1] at h; subst h
  refine s_val 6 rfl rfl (.bool false) (rfl) ?_
  refine nr ?_; intro U h; simp only [z0, z1] at h; subst h
  refine wpList_nil ?_
  refine then_n ?_
  refine wp_seq ?_
  refine wp_region_exA (A := ?Ax1) 20 [(0, 7), (1, 8), (2, 9), (3, 10), (4, 11), (5, 12), (6, 13), (7, 14), (8, 15), (9, 16), (10, 17), (11, 18), (12, 19), (13, 20), (14, 21), (15, 22), (16, 23), (17, 24), (18, 25), (19, 26)] [.val (.bool true), .val (.bool true), .val (.agg (idA d)), .val (.agg (chA a)), .val (.agg (chA b)), .val (.bool (bef d a b)), .val (.agg (idA d)), .val (.agg (chA a)), .val (.agg (chA a)), .val (.agg (chA b)), .val (.agg (chA b)), .val (.bool (bef d a b)), .val (.bool true), .val (.bool true), .val (.bool true), .val (.agg (idA d)), .val (.agg (chA a)), .val (.agg (chA a)), .val (.bool false), .val (.bool true)] follows (by kernel_rfl) rfl ?hAx1 (opsA_cons ?o0x1 (opsA_cons ?o1x1 (opsA_cons ?o2x1 (opsA_cons ?o3x1 (opsA_cons ?o4x1 (opsA_cons ?o5x1 (opsA_cons ?o6x1 (opsA_cons ?o7x1 (opsA_cons ?o8x1 (opsA_cons ?o9x1 (opsA_cons ?o10x1 (opsA_cons ?o11x1 (opsA_cons ?o12x1 (opsA_cons ?o13x1 (opsA_cons ?o14x1 (opsA_cons ?o15x1 (opsA_cons ?o16x1 (opsA_cons ?o17x1 (opsA_cons ?o18x1 (opsA_cons ?o19x1 opsA_nil)))))))))))))))))))) ?restx1
  case hAx1 =>
    intro ptrs
    simp only [full, foldSlots, filledE, postE, List.foldl_cons, List.foldl_nil, List.getD_cons_zero, List.getD_cons_succ, fill_val, List.set_cons_zero, List.set_cons_succ]
    exact rfl
  case o0x1 =>
    intro ptrs w' hw hE
    exact opE_call (.val (.bool true)) rfl _ 10 Try.call10 rfl rfl _ rfl [] rfl ((fixed_any _).mono fun e w' ⟨he, hg⟩ => ⟨_, he, hg, rfl⟩)
  case o1x1 => exact fun _ _ _ _ => opE_move (v := .bool true) _ rfl rfl rfl
  case o2x1 => exact fun _ _ hw _ => opE_value (v := .agg (idA d)) rfl (ldI0 _ rfl g1 rfl (hw.has kg1))
  case o3x1 => exact fun _ _ hw _ => opE_value (v := .agg (chA a)) rfl (ldC0 _ rfl g2 rfl (hw.has kg2))
  case o4x1 => exact fun _ _ hw _ => opE_value (v := .agg (chA b)) rfl (ldC0 _ rfl g3 rfl (hw.has kg3))
  case o5x1 =>
    intro ptrs w' hw hE
    exact opE_call (.val (.bool (bef d a b))) rfl _ 16 Try.call16 rfl rfl _ rfl [.agg (idA d), .agg (chA a), .agg (chA b)] rfl ((before_any d a b hd ha hb _).mono fun e w' ⟨he, hg⟩ => ⟨_, he, hg, rfl⟩)
  case o6x1 => exact fun _ _ hw _ => opE_value (v := .agg (idA d)) rfl (ldI0 _ rfl g1 rfl (hw.has kg1))
  case o7x1 => exact fun _ _ hw _ => opE_value (v := .agg (chA a)) rfl (ldC0 _ rfl g2 rfl (hw.has kg2))
  case o8x1 =>
    intro ptrs w' hw hE
    exact opE_call (.val (.agg (chA a))) rfl _ 18 Try.call18 rfl rfl _ rfl [.agg (chA a)] rfl ((plain_any a _).mono fun e w' ⟨he, hg⟩ => ⟨_, he, hg, rfl⟩)
  case o9x1 => exact fun _ _ hw _ => opE_value (v := .agg (chA b)) rfl (ldC0 _ rfl g3 rfl (hw.has kg3))
  case o10x1 =>
    intro ptrs w' hw hE
    exact opE_call (.val (.agg (chA b))) rfl _ 18 Try.call18 rfl rfl _ rfl [.agg (chA b)] rfl ((plain_any b _).mono fun e w' ⟨he, hg⟩ => ⟨_, he, hg, rfl⟩)
  case o11x1 =>
    intro ptrs w' hw hE
    exact opE_call (.val (.bool (bef d a b))) rfl _ 17 Try.call17 rfl rfl _ rfl [.agg (idA d), .agg (chA a), .agg (chA b)] rfl ((Calls.bool (rbefore_any d a b hd ha hb _) (bef_eq d a b).symm).mono fun e w' ⟨he, hg⟩ => ⟨_, he, hg, rfl⟩)
  case o12x1 => exact fun _ _ _ _ => opE_value (v := .bool true) rfl (run_eqB 4 _ _ _ rfl (bef d a b) (bef d a b) rfl rfl Try.underlying4 true (decide_eq_true rfl) _)
  case o13x1 => exact fun _ _ _ _ => opE_pick (v := .bool true) _ _ _ rfl rfl true rfl rfl
  case o14x1 => exact fun _ _ _ _ => opE_move (v := .bool true) _ rfl rfl rfl
  case o15x1 => exact fun _ _ hw _ => opE_value (v := .agg (idA d)) rfl (ldI0 _ rfl g1 rfl (hw.has kg1))
  case o16x1 => exact fun _ _ hw _ => opE_value (v := .agg (chA a)) rfl (ldC0 _ rfl g2 rfl (hw.has kg2))
  case o17x1 => exact fun _ _ hw _ => opE_value (v := .agg (chA a)) rfl (ldC0 _ rfl g2 rfl (hw.has kg2))
  case o18x1 =>
    intro ptrs w' hw hE
    exact opE_call (.val (.bool false)) rfl _ 16 Try.call16 rfl rfl _ rfl [.agg (idA d), .agg (chA a), .agg (chA a)] rfl ((Calls.bool (before_any d a a hd ha ha _) (bef_irr d a)).mono fun e w' ⟨he, hg⟩ => ⟨_, he, hg, rfl⟩)
  case o19x1 => exact fun _ _ _ _ => opE_value (v := .bool true) rfl (run_nt _ _ rfl false rfl)
  intro ptrs w4 GD hxE
  simp only [List.drop_succ_cons, List.drop_zero]
  replace kg1 := GD.has kg1
  replace kg2 := GD.has kg2
  replace kg3 := GD.has kg3
  replace GG := GG.drew.trans GD
  clear GD
  refine s_val 27 rfl rfl (.bool true) (rfl) ?_
  refine nr ?_; intro U h; simp only [z0, z1] at h; subst h
  refine s_val 6 rfl rfl (.bool true) (rfl) ?_
  refine nr ?_; intro U h; simp only [z0, z1] at h; subst h
  refine wpList_nil ?_
  refine then_n ?_
  refine wp_ret ?_
  refine bodyPost_ret (results_tmp Try.results4 _ _ _) rfl ?_
  exact ⟨rfl, GG⟩
set_option maxRecDepth 100000 in
set_option maxHeartbeats 4000000 in
theorem routeHome_any (w : World) (s : Nat) (hs : s < top) (an : Option Addr) (cn : Nat) (N : List Nr) (HN : RK kN w an cn N) (hNl : N.length ≤ 600000) (ae : Option Addr) (ce : Nat) (E : List En) (HE : RE w ae ce E) (hEl : E.length ≤ 600000) : Calls Try.prog 7 #[.agg (plA s an N.length cn ae E.length ce)] w (fun e w' => e = .returned (.bool true) ∧ Gro w w') := by
  refine s_enter Try.func7 rfl Try.ntmps7 [.agg (plA s an N.length cn ae E.length ce)] [.agg (plA s an N.length cn ae E.length ce), undef, undef, undef, undef, undef, undef, undef, undef, undef, undef, undef, undef, undef, undef, undef, undef, undef, undef, undef, undef, undef, undef, undef, undef, undef, undef, undef, undef, undef] rfl ?_
  have GG := Gro.refl w
  have hAll : AllE (layL [] E) := layL_ok AllE.nil HE.all
  have hRis : Ris (layL [] E) := layL_ris AllE.nil Ris.nil HE.all
  have hLl : (layL [] E).length ≤ 1000 := Nat.le_trans (layL_le (by decide)) (by decide)
  refine wp_seq ?_
  refine wp_region_lit ?_
  refine s_box 1 rfl rfl 27 _ rfl _ rfl (plA s an N.length cn ae E.length ce) rfl ?_
  intro w1 g1 G eg1 kg1
  have bg1 := size_base GG eg1
  replace GG := GG.trans G
  clear G
  clear eg1
  refine nr ?_; intro U h; simp only [z0, z1] at h; subst h
  refine s_val 2 rfl rfl (.bool false) (rfl) ?_
  refine nr ?_; intro U h; simp only [z0, z1] at h; subst h
  refine wpList_nil ?_
  refine then_n ?_
  refine wp_seq ?_
  refine wp_region_g2A (A := ?Ax2) 9 [(0, 8), (1, 9), (2, 10), (3, 11), (4, 12), (5, 13), (6, 3), (8, 4)] [.val (.pointer (some ⟨g1, 0, none⟩)), .val (.agg (idA s)), .val (.pointer (some ⟨g1, 16, none⟩)), .val (.slice an N.length cn), .val (.pointer (some ⟨g1, 17, none⟩)), .val (.slice ae E.length ce), .new 23 (idA 0) (idA s) 7, .put 6, .val (.slice an N.length cn)] follows (by kernel_rfl) (by kernel_rfl) rfl ?hAx2 (opsA2_cons ?o0x2 (opsA2_cons ?o1x2 (opsA2_cons ?o2x2 (opsA2_cons ?o3x2 (opsA2_cons ?o4x2 (opsA2_cons ?o5x2 (opsA2_cons ?o6x2 (opsA2_cons ?o7x2 (opsA2_cons ?o8x2 opsA2_nil))))))))) ?restx2
  case hAx2 =>
    intro ptrs
    simp only [full, foldSlots, filled2, postAt2, List.foldl_cons, List.foldl_nil, List.getD_cons_zero, List.getD_cons_succ, PostS.fill, PostS.val, PostS.new, PostS.put, List.set_cons_zero, List.set_cons_succ]
    exact rfl
  case o0x2 => exact fun _ _ _ _ _ _ => OpOK2.of_val (ok_value (v := .pointer (some ⟨g1, 0, none⟩)) rfl (run_fld 27 _ 0 rfl g1 0 rfl 0 (by kernel_rfl)))
  case o1x2 => exact fun _ _ _ hw _ _ => OpOK2.of_val (ok_value (v := .agg (idA s)) rfl (ldLs _ rfl g1 rfl (hw.has kg1)))
  case o2x2 => exact fun _ _ _ _ _ _ => OpOK2.of_val (ok_value (v := .pointer (some ⟨g1, 16, none⟩)) rfl (run_fld 27 _ 1 rfl g1 0 rfl 16 (by kernel_rfl)))
  case o3x2 => exact fun _ _ _ hw _ _ => OpOK2.of_val (ok_value (v := .slice an N.length cn) rfl (ldLn _ rfl g1 rfl (hw.has kg1)))
  case o4x2 => exact fun _ _ _ _ _ _ => OpOK2.of_val (ok_value (v := .pointer (some ⟨g1, 17, none⟩)) rfl (run_fld 27 _ 2 rfl g1 0 rfl 17 (by kernel_rfl)))
  case o5x2 => exact fun _ _ _ hw _ _ => OpOK2.of_val (ok_value (v := .slice ae E.length ce) rfl (ldLe _ rfl g1 rfl (hw.has kg1)))
  case o6x2 => exact fun _ _ _ _ _ _ => OpOK2.of_new (ok_alloc rfl 23 rfl _ zero23)
  case o7x2 =>
    intro ptrs Lq wq hw hn hL
    obtain ⟨⟨gq, pq, kq, cq⟩, hz⟩ := hn
    have hL' : Lq 7 = false := hL
    have p' : ptrs 6 = .pointer (some ⟨gq, 0, none⟩) := pq
    have k' : wq.heap[gq]? = some (.cells (if Lq 7 = true then (idA s) else (idA 0)) 23 (0, 0)) := kq
    rw [hL'] at k'
    refine ok2_store rfl 23 _ _ rfl gq ?_ (idA s) rfl (idA 0) k' (size23' _) (idA_sz _ _) (idA_one _) rfl p' _
    show ptrs 6 = _
    exact p'
  case o8x2 => exact fun _ _ _ _ _ _ => OpOK2.of_val (ok_value (v := .slice an N.length cn) rfl rfl)
  intro ptrs Lz w2 GD hLz hnz hapz
  obtain ⟨⟨gS, pzgS, kgS, czgS⟩, hzz⟩ := hnz
  simp only [List.drop_succ_cons, List.drop_zero, pzgS]
  replace kgS : w2.heap[gS]? = some (.cells (idA s) 23 (0, 0)) := by
    have hL' : Lz 7 = true := by rw [hLz]; rfl
    have kk : w2.heap[gS]? = some (.cells (if Lz 7 = true then (idA s) else (idA 0)) 23 (0, 0)) := kgS
    rw [hL'] at kk
    exact kk
  clear hzz hapz hLz
  have dg1gS : g1 < gS := Nat.lt_of_lt_of_le (lt_of_heap kg1) czgS
  replace kg1 := GD.has kg1
  have bgS := Nat.le_trans GG.size czgS
  replace GG := GG.drew.trans GD
  clear GD pzgS czgS
  refine s_val 5 rfl rfl (.slice ae E.length ce) (rfl) ?_
  refine nr ?_; intro U h; simp only [z0, z1] at h; subst h
  refine wpList_nil ?_
  refine then_n ?_
  refine wp_seq ?_
  refine wp_region_lit ?_
  refine s_val 15 rfl rfl (.slice ae E.length ce) (rfl) ?_
  refine nr ?_; intro U h; simp only [z0, z1] at h; subst h
  refine s_callx 16 rfl rfl _ 9 Try.call9 rfl rfl _ rfl [.slice ae E.length ce] rfl (laid_any _ ae ce E (HE.gro GG) (le_big hEl)) (by rintro _ _ ⟨_, _, _, _, he, _⟩; exact ⟨_, he⟩) ?_
  rintro v w3 ⟨t, b, lat, lct, he, G, kt, HTt, HLt⟩
  cases he
  replace kg1 := G.has kg1
  replace kgS := G.has kgS
  replace GG := GG.trans G
  clear G
  refine nr ?_; intro U h; simp only [z0, z1] at h; subst h
  refine s_val 14 rfl rfl (.tuple #[.pointer (some ⟨t, 0, none⟩), .slice lat (layL [] E).length lct]) (rfl) ?_
  refine nr ?_; intro U h; simp only [z0, z1] at h; subst h
  refine s_val 17 rfl rfl (.pointer (some ⟨t, 0, none⟩)) (rfl) ?_
  refine nr ?_; intro U h; simp only [z0, z1] at h; subst h
  refine s_val 18 rfl rfl (.slice lat (layL [] E).length lct) (rfl) ?_
  refine nr ?_; intro U h; simp only [z0, z1] at h; subst h
  refine s_val 6 rfl rfl (.pointer (some ⟨t, 0, none⟩)) (rfl) ?_
  refine nr ?_; intro U h; simp only [z0, z1] at h; subst h
  refine s_val 7 rfl rfl (.slice lat (layL [] E).length lct) (rfl) ?_
  refine nr ?_; intro U h; simp only [z0, z1] at h; subst h
  refine wpList_nil ?_
  refine then_n ?_
  refine wp_seq ?_
  refine wp_region_exA (A := ?Ax3) 10 [(0, 19), (1, 20), (2, 21), (3, 22), (4, 23), (5, 24), (6, 25), (7, 26), (8, 27), (9, 28)] [.val (.bool true), .val (.bool true), .val (.agg (idA s)), .val (.agg (idA s)), .val (.slice an N.length cn), .val (.pointer (some ⟨t, 0, none⟩)), .val (.agg (chA (cho s s N (layL [] E)))), .val (.agg (idA s)), .val (.agg (chA (mkC s false zP (-1)))), .val (.bool true)] follows (by kernel_rfl) rfl ?hAx3 (opsA_cons ?o0x3 (opsA_cons ?o1x3 (opsA_cons ?o2x3 (opsA_cons ?o3x3 (opsA_cons ?o4x3 (opsA_cons ?o5x3 (opsA_cons ?o6x3 (opsA_cons ?o7x3 (opsA_cons ?o8x3 (opsA_cons ?o9x3 opsA_nil)))))))))) ?restx3
  case hAx3 =>
    intro ptrs
    simp only [full, foldSlots, filledE, postE, List.foldl_cons, List.foldl_nil, List.getD_cons_zero, List.getD_cons_succ, fill_val, List.set_cons_zero, List.set_cons_succ]
    exact rfl
  case o0x3 =>
    intro ptrs w' hw hE
    exact opE_call (.val (.bool true)) rfl _ 10 Try.call10 rfl rfl _ rfl [] rfl ((fixed_any _).mono fun e w' ⟨he, hg⟩ => ⟨_, he, hg, rfl⟩)
  case o1x3 => exact fun _ _ _ _ => opE_move (v := .bool true) _ rfl rfl rfl
  case o2x3 => exact fun _ _ hw _ => opE_value (v := .agg (idA s)) rfl (ldI0 _ rfl gS rfl (hw.has kgS))
  case o3x3 => exact fun _ _ hw _ => opE_value (v := .agg (idA s)) rfl (ldI0 _ rfl gS rfl (hw.has kgS))
  case o4x3 => exact fun _ _ _ _ => opE_move (v := .slice an N.length cn) _ rfl rfl rfl
  case o5x3 => exact fun _ _ _ _ => opE_move (v := .pointer (some ⟨t, 0, none⟩)) _ rfl rfl rfl
  case o6x3 =>
    intro ptrs w' hw hE
    exact opE_call (.val (.agg (chA (cho s s N (layL [] E))))) rfl _ 14 Try.call14 rfl rfl _ rfl [.agg (idA s), .agg (idA s), .slice an N.length cn, .pointer (some ⟨t, 0, none⟩)] rfl ((choose_any _ s s hs hs an cn N (HN.gro (GG.drew.trans hw)) hNl t b 128 (layL [] E) (hw.has kt) (HTt.gro ((Gro.refl _).drew.trans hw)) hRis hLl).mono fun e w' ⟨he, hg⟩ => ⟨_, he, hg, rfl⟩)
  case o7x3 => exact fun _ _ hw _ => opE_value (v := .agg (idA s)) rfl (ldI0 _ rfl gS rfl (hw.has kgS))
  case o8x3 => exact fun _ _ _ _ => opE_value (v := .agg (chA (mkC s false zP (-1)))) rfl (run_bd 40 _ rfl [(0, .agg (idA s)), (3, .int .i64 (-1))] rfl _ (bdC03 _ _ _))
  case o9x3 => exact fun _ _ _ _ => opE_value (v := .bool true) rfl (run_eqC _ _ _ rfl (cho s s N (layL [] E)) (mkC s false zP (-1)) rfl rfl (cho_ok hs HN.all hAll) (mkC_ok hs zP_ok m1_i64) true (decide_eq_true (chs_home hs _)))
  intro ptrs w4 GD hxE
  simp only [List.drop_succ_cons, List.drop_zero]
  replace kg1 := GD.has kg1
  replace kgS := GD.has kgS
  replace kt := GD.has kt
  replace HTt := HTt.gro ((Gro.refl _).drew.trans GD)
  replace HLt := HLt.gro ((Gro.refl _).drew.trans GD)
  replace GG := GG.drew.trans GD
  clear GD
  refine s_val 29 rfl rfl (.bool true) (rfl) ?_
  refine nr ?_; intro U h; simp only [z0, z1] at h; subst h
  refine s_val 2 rfl rfl (.bool true) (rfl) ?_
  refine nr ?_; intro U h; simp only [z0, z1] at h; subst h
  refine wpList_nil ?_
  refine then_n ?_
  refine wp_ret ?_
  refine bodyPost_ret (results_tmp Try.results7 _ _ _) rfl ?_
  exact ⟨rfl, GG⟩
set_option maxRecDepth 100000 in
set_option maxHeartbeats 4000000 in
theorem routeChooses_any (w : World) (d s : Nat) (hd : d < top) (hs : s < top) (an : Option Addr) (cn : Nat) (N : List Nr) (HN : RK kN w an cn N) (hNl : N.length ≤ 600000) (ae : Option Addr) (ce : Nat) (E : List En) (HE : RE w ae ce E) (hEl : E.length ≤ 600000) : Calls Try.prog 3 #[.agg (idA d), .agg (plA s an N.length cn ae E.length ce)] w (fun e w' => e = .returned (.bool true) ∧ Gro w w') := by
  refine s_enter Try.func3 rfl Try.ntmps3 [.agg (idA d), .agg (plA s an N.length cn ae E.length ce)] [.agg (idA d), .agg (plA s an N.length cn ae E.length ce), undef, undef, undef, undef, undef, undef, undef, undef, undef, undef, undef, undef, undef, undef, undef, undef, undef, undef, undef, undef, undef, undef, undef, undef, undef, undef, undef, undef, undef, undef, undef, undef, undef, undef, undef, undef, undef, undef, undef, undef, undef, undef, undef, undef, undef, undef, undef, undef, undef, undef, undef, undef, undef, undef, undef, undef, undef, undef, undef, undef, undef, undef, undef, undef, undef, undef, undef] rfl ?_
  have GG := Gro.refl w
  have hAll : AllE (layL [] E) := layL_ok AllE.nil HE.all
  have hRis : Ris (layL [] E) := layL_ris AllE.nil Ris.nil HE.all
  have hLl : (layL [] E).length ≤ 1000 := Nat.le_trans (layL_le (by decide)) (by decide)
  have HKn : AllC (knw s N (layL [] E)) := knw_ok hs HN.all hAll
  refine wp_seq ?_
  refine wp_region_lit ?_
  refine s_box 2 rfl rfl 23 _ rfl _ rfl (idA d) rfl ?_
  intro w1 g1 G eg1 kg1
  have bg1 := size_base GG eg1
  replace GG := GG.trans G
  clear G
  clear eg1
  refine nr ?_; intro U h; simp only [z0, z1] at h; subst h
  refine s_box 3 rfl rfl 27 _ rfl _ rfl (plA s an N.length cn ae E.length ce) rfl ?_
  intro w2 g2 G eg2 kg2
  have bg2 := size_base GG eg2
  have dg1g2 := lt_new kg1 eg2
  replace kg1 := G.has kg1
  replace GG := GG.trans G
  clear G
  clear eg2
  refine nr ?_; intro U h; simp only [z0, z1] at h; subst h
  refine s_val 4 rfl rfl (.bool false) (rfl) ?_
  refine nr ?_; intro U h; simp only [z0, z1] at h; subst h
  refine wpList_nil ?_
  refine then_n ?_
  refine wp_seq ?_
  refine wp_region_g2A (A := ?Ax4) 9 [(0, 13), (1, 14), (2, 15), (3, 16), (4, 17), (5, 18), (6, 5), (8, 6)] [.val (.pointer (some ⟨g2, 0, none⟩)), .val (.agg (idA s)), .val (.pointer (some ⟨g2, 16, none⟩)), .val (.slice an N.length cn), .val (.pointer (some ⟨g2, 17, none⟩)), .val (.slice ae E.length ce), .new 23 (idA 0) (idA s) 7, .put 6, .val (.slice an N.length cn)] follows (by kernel_rfl) (by kernel_rfl) rfl ?hAx4 (opsA2_cons ?o0x4 (opsA2_cons ?o1x4 (opsA2_cons ?o2x4 (opsA2_cons ?o3x4 (opsA2_cons ?o4x4 (opsA2_cons ?o5x4 (opsA2_cons ?o6x4 (opsA2_cons ?o7x4 (opsA2_cons ?o8x4 opsA2_nil))))))))) ?restx4
  case hAx4 =>
    intro ptrs
    simp only [full, foldSlots, filled2, postAt2, List.foldl_cons, List.foldl_nil, List.getD_cons_zero, List.getD_cons_succ, PostS.fill, PostS.val, PostS.new, PostS.put, List.set_cons_zero, List.set_cons_succ]
    exact rfl
  case o0x4 => exact fun _ _ _ _ _ _ => OpOK2.of_val (ok_value (v := .pointer (some ⟨g2, 0, none⟩)) rfl (run_fld 27 _ 0 rfl g2 0 rfl 0 (by kernel_rfl)))
  case o1x4 => exact fun _ _ _ hw _ _ => OpOK2.of_val (ok_value (v := .agg (idA s)) rfl (ldLs _ rfl g2 rfl (hw.has kg2)))
  case o2x4 => exact fun _ _ _ _ _ _ => OpOK2.of_val (ok_value (v := .pointer (some ⟨g2, 16, none⟩)) rfl (run_fld 27 _ 1 rfl g2 0 rfl 16 (by kernel_rfl)))
  case o3x4 => exact fun _ _ _ hw _ _ => OpOK2.of_val (ok_value (v := .slice an N.length cn) rfl (ldLn _ rfl g2 rfl (hw.has kg2)))
  case o4x4 => exact fun _ _ _ _ _ _ => OpOK2.of_val (ok_value (v := .pointer (some ⟨g2, 17, none⟩)) rfl (run_fld 27 _ 2 rfl g2 0 rfl 17 (by kernel_rfl)))
  case o5x4 => exact fun _ _ _ hw _ _ => OpOK2.of_val (ok_value (v := .slice ae E.length ce) rfl (ldLe _ rfl g2 rfl (hw.has kg2)))
  case o6x4 => exact fun _ _ _ _ _ _ => OpOK2.of_new (ok_alloc rfl 23 rfl _ zero23)
  case o7x4 =>
    intro ptrs Lq wq hw hn hL
    obtain ⟨⟨gq, pq, kq, cq⟩, hz⟩ := hn
    have hL' : Lq 7 = false := hL
    have p' : ptrs 6 = .pointer (some ⟨gq, 0, none⟩) := pq
    have k' : wq.heap[gq]? = some (.cells (if Lq 7 = true then (idA s) else (idA 0)) 23 (0, 0)) := kq
    rw [hL'] at k'
    refine ok2_store rfl 23 _ _ rfl gq ?_ (idA s) rfl (idA 0) k' (size23' _) (idA_sz _ _) (idA_one _) rfl p' _
    show ptrs 6 = _
    exact p'
  case o8x4 => exact fun _ _ _ _ _ _ => OpOK2.of_val (ok_value (v := .slice an N.length cn) rfl rfl)
  intro ptrs Lz w3 GD hLz hnz hapz
  obtain ⟨⟨gS, pzgS, kgS, czgS⟩, hzz⟩ := hnz
  simp only [List.drop_succ_cons, List.drop_zero, pzgS]
  replace kgS : w3.heap[gS]? = some (.cells (idA s) 23 (0, 0)) := by
    have hL' : Lz 7 = true := by rw [hLz]; rfl
    have kk : w3.heap[gS]? = some (.cells (if Lz 7 = true then (idA s) else (idA 0)) 23 (0, 0)) := kgS
    rw [hL'] at kk
    exact kk
  clear hzz hapz hLz
  have dg1gS : g1 < gS := Nat.lt_of_lt_of_le (lt_of_heap kg1) czgS
  have dg2gS : g2 < gS := Nat.lt_of_lt_of_le (lt_of_heap kg2) czgS
  replace kg1 := GD.has kg1
  replace kg2 := GD.has kg2
  have bgS := Nat.le_trans GG.size czgS
  replace GG := GG.drew.trans GD
  clear GD pzgS czgS
  refine s_val 7 rfl rfl (.slice ae E.length ce) (rfl) ?_
  refine nr ?_; intro U h; simp only [z0, z1] at h; subst h
  refine wpList_nil ?_
  refine then_n ?_
  refine wp_seq ?_
  refine wp_region_lit ?_
  refine s_val 20 rfl rfl (.slice ae E.length ce) (rfl) ?_
  refine nr ?_; intro U h; simp only [z0, z1] at h; subst h
  refine s_callx 21 rfl rfl _ 9 Try.call9 rfl rfl _ rfl [.slice ae E.length ce] rfl (laid_any _ ae ce E (HE.gro GG) (le_big hEl)) (by rintro _ _ ⟨_, _, _, _, he, _⟩; exact ⟨_, he⟩) ?_
  rintro v w4 ⟨t, b, lat, lct, he, G, kt, HTt, HLt⟩
  cases he
  replace kg1 := G.has kg1
  replace kg2 := G.has kg2
  replace kgS := G.has kgS
  replace GG := GG.trans G
  clear G
  refine nr ?_; intro U h; simp only [z0, z1] at h; subst h
  refine s_val 19 rfl rfl (.tuple #[.pointer (some ⟨t, 0, none⟩), .slice lat (layL [] E).length lct]) (rfl) ?_
  refine nr ?_; intro U h; simp only [z0, z1] at h; subst h
  refine s_val 22 rfl rfl (.pointer (some ⟨t, 0, none⟩)) (rfl) ?_
  refine nr ?_; intro U h; simp only [z0, z1] at h; subst h
  refine s_val 23 rfl rfl (.slice lat (layL [] E).length lct) (rfl) ?_
  refine nr ?_; intro U h; simp only [z0, z1] at h; subst h
  refine s_val 8 rfl rfl (.pointer (some ⟨t, 0, none⟩)) (rfl) ?_
  refine nr ?_; intro U h; simp only [z0, z1] at h; subst h
  refine s_val 9 rfl rfl (.slice lat (layL [] E).length lct) (rfl) ?_
  refine nr ?_; intro U h; simp only [z0, z1] at h; subst h
  refine wpList_nil ?_
  refine then_n ?_
  refine wp_seq ?_
  refine wp_seq ?_
  refine wp_region_lit ?_
  refine s_callv 24 rfl rfl _ 10 Try.call10 rfl rfl _ rfl [] rfl (fixed_any _) ?_
  intro w5 G
  replace kg1 := G.has kg1
  replace kg2 := G.has kg2
  replace kgS := G.has kgS
  replace kt := G.has kt
  replace HTt := HTt.gro G
  replace HLt := HLt.gro G
  replace GG := GG.trans G
  clear G
  refine nr ?_; intro U h; simp only [z0, z1] at h; subst h
  refine s_val 25 rfl rfl (.bool false) (run_nt _ _ rfl true rfl) ?_
  refine nr ?_; intro U h; simp only [z0, z1] at h; subst h
  refine wpList_nil ?_
  refine then_n ?_
  refine wp_cond_false rfl ?_
  refine wp_skip ?_
  refine then_n ?_
  refine wp_seq ?_
  refine wp_region_lit ?_
  refine s_val 26 rfl rfl (.agg (idA s)) (ldI0 _ rfl gS rfl (kgS)) ?_
  refine nr ?_; intro U h; simp only [z0, z1] at h; subst h
  refine s_val 27 rfl rfl (.slice an N.length cn) (rfl) ?_
  refine nr ?_; intro U h; simp only [z0, z1] at h; subst h
  refine s_val 28 rfl rfl (.pointer (some ⟨t, 0, none⟩)) (rfl) ?_
  refine nr ?_; intro U h; simp only [z0, z1] at h; subst h
  refine s_callx 29 rfl rfl _ 11 Try.call11 rfl rfl _ rfl [.agg (idA s), .slice an N.length cn, .pointer (some ⟨t, 0, none⟩)] rfl (known_any _ s hs an cn N (HN.gro GG) hNl t b 128 (layL [] E) (kt) (HTt) hRis hLl) (by rintro _ _ ⟨_, _, he, _⟩; exact ⟨_, he⟩) ?_
  rintro v w6 ⟨ao2, cap2, he, G, HO2⟩
  cases he
  replace HO2 := HO2.mono GG.size
  replace kg1 := G.has kg1
  replace kg2 := G.has kg2
  replace kgS := G.has kgS
  replace kt := G.has kt
  replace HTt := HTt.gro G
  replace HLt := HLt.gro G
  replace GG := GG.trans G
  clear G
  have HR2 := HO2.re
  refine nr ?_; intro U h; simp only [z0, z1] at h; subst h
  refine s_val 10 rfl rfl (.slice ao2 (knw s N (layL [] E)).length cap2) (rfl) ?_
  refine nr ?_; intro U h; simp only [z0, z1] at h; subst h
  refine wpList_nil ?_
  refine then_n ?_
  refine wp_seq ?_
  refine wp_region_lit ?_
  refine s_val 30 rfl rfl (.agg (idA s)) (ldI0 _ rfl gS rfl (kgS)) ?_
  refine nr ?_; intro U h; simp only [z0, z1] at h; subst h
  refine s_val 31 rfl rfl (.slice an N.length cn) (rfl) ?_
  refine nr ?_; intro U h; simp only [z0, z1] at h; subst h
  refine s_val 32 rfl rfl (.slice lat (layL [] E).length lct) (rfl) ?_
  refine nr ?_; intro U h; simp only [z0, z1] at h; subst h
  refine s_callx 33 rfl rfl _ 12 Try.call12 rfl rfl _ rfl [.agg (idA s), .slice an N.length cn, .slice lat (layL [] E).length lct] rfl (rknown_any _ s hs an cn N (HN.gro GG) hNl lat lct (layL [] E) (HLt).re hLl) (by rintro _ _ ⟨_, _, he, _⟩; exact ⟨_, he⟩) ?_
  rintro v w7 ⟨ao3, cap3, he, G, HO3⟩
  cases he
  replace HO3 := HO3.mono GG.size
  replace kg1 := G.has kg1
  replace kg2 := G.has kg2
  replace kgS := G.has kgS
  replace kt := G.has kt
  replace HTt := HTt.gro G
  replace HLt := HLt.gro G
  replace HR2 := HR2.gro G
  replace HO2 := HO2.gro G
  replace GG := GG.trans G
  clear G
  have HR3 := HO3.re
  refine nr ?_; intro U h; simp only [z0, z1] at h; subst h
  refine s_val 11 rfl rfl (.slice ao3 (knw s N (layL [] E)).length cap3) (rfl) ?_
  refine nr ?_; intro U h; simp only [z0, z1] at h; subst h
  refine wpList_nil ?_
  refine then_n ?_
  refine wp_seq ?_
  refine wp_seq ?_
  refine wp_region_exA (A := ?Ax5) 18 [(0, 34), (1, 35), (2, 36), (3, 37), (4, 38), (5, 39), (6, 40), (7, 41), (8, 42), (9, 43), (10, 44), (11, 45), (12, 46), (13, 47), (14, 48), (15, 49), (16, 50), (17, 51)] [.val (.slice ao2 (knw s N (layL [] E)).length cap2), .val (.int .i64 (((knw s N (layL [] E)).length : Nat) : Int)), .val (.slice ao3 (knw s N (layL [] E)).length cap3), .val (.int .i64 (((knw s N (layL [] E)).length : Nat) : Int)), .val (.bool false), .val (.bool false), .val (.agg (idA d)), .val (.agg (idA s)), .val (.slice an N.length cn), .val (.pointer (some ⟨t, 0, none⟩)), .val (.agg (chA (cho d s N (layL [] E)))), .val (.agg (idA d)), .val (.agg (idA s)), .val (.slice an N.length cn), .val (.slice lat (layL [] E).length lct), .val (.agg (chA (cho d s N (layL [] E)))), .val (.bool true), .val (.bool false)] follows (by kernel_rfl) rfl ?hAx5 (opsA_cons ?o0x5 (opsA_cons ?o1x5 (opsA_cons ?o2x5 (opsA_cons ?o3x5 (opsA_cons ?o4x5 (opsA_cons ?o5x5 (opsA_cons ?o6x5 (opsA_cons ?o7x5 (opsA_cons ?o8x5 (opsA_cons ?o9x5 (opsA_cons ?o10x5 (opsA_cons ?o11x5 (opsA_cons ?o12x5 (opsA_cons ?o13x5 (opsA_cons ?o14x5 (opsA_cons ?o15x5 (opsA_cons ?o16x5 (opsA_cons ?o17x5 opsA_nil)))))))))))))))))) ?restx5
  case hAx5 =>
    intro ptrs
    simp only [full, foldSlots, filledE, postE, List.foldl_cons, List.foldl_nil, List.getD_cons_zero, List.getD_cons_succ, fill_val, List.set_cons_zero, List.set_cons_succ]
    exact rfl
  case o0x5 => exact fun _ _ _ _ => opE_move (v := .slice ao2 (knw s N (layL [] E)).length cap2) _ rfl rfl rfl
  case o1x5 => exact fun _ _ _ _ => opE_value (v := .int .i64 (((knw s N (layL [] E)).length : Nat) : Int)) rfl (run_len Try.underlying32 _ rfl _ _ _ rfl _)
  case o2x5 => exact fun _ _ _ _ => opE_move (v := .slice ao3 (knw s N (layL [] E)).length cap3) _ rfl rfl rfl
  case o3x5 => exact fun _ _ _ _ => opE_value (v := .int .i64 (((knw s N (layL [] E)).length : Nat) : Int)) rfl (run_len Try.underlying34 _ rfl _ _ _ rfl _)
  case o4x5 => exact fun _ _ _ _ => opE_value (v := .bool false) rfl (run_neq_k 3 .i64 _ _ _ rfl Try.underlying3 (((knw s N (layL [] E)).length : Nat) : Int) (((knw s N (layL [] E)).length : Nat) : Int) rfl rfl false (decide_eq_true rfl) _)
  case o5x5 => exact fun _ _ _ _ => opE_move (v := .bool false) _ rfl rfl rfl
  case o6x5 => exact fun _ _ hw _ => opE_value (v := .agg (idA d)) rfl (ldI0 _ rfl g1 rfl (hw.has kg1))
  case o7x5 => exact fun _ _ hw _ => opE_value (v := .agg (idA s)) rfl (ldI0 _ rfl gS rfl (hw.has kgS))
  case o8x5 => exact fun _ _ _ _ => opE_move (v := .slice an N.length cn) _ rfl rfl rfl
  case o9x5 => exact fun _ _ _ _ => opE_move (v := .pointer (some ⟨t, 0, none⟩)) _ rfl rfl rfl
  case o10x5 =>
    intro ptrs w' hw hE
    exact opE_call (.val (.agg (chA (cho d s N (layL [] E))))) rfl _ 14 Try.call14 rfl rfl _ rfl [.agg (idA d), .agg (idA s), .slice an N.length cn, .pointer (some ⟨t, 0, none⟩)] rfl ((choose_any _ d s hd hs an cn N (HN.gro (GG.drew.trans hw)) hNl t b 128 (layL [] E) (hw.has kt) (HTt.gro ((Gro.refl _).drew.trans hw)) hRis hLl).mono fun e w' ⟨he, hg⟩ => ⟨_, he, hg, rfl⟩)
  case o11x5 => exact fun _ _ hw _ => opE_value (v := .agg (idA d)) rfl (ldI0 _ rfl g1 rfl (hw.has kg1))
  case o12x5 => exact fun _ _ hw _ => opE_value (v := .agg (idA s)) rfl (ldI0 _ rfl gS rfl (hw.has kgS))
  case o13x5 => exact fun _ _ _ _ => opE_move (v := .slice an N.length cn) _ rfl rfl rfl
  case o14x5 => exact fun _ _ _ _ => opE_move (v := .slice lat (layL [] E).length lct) _ rfl rfl rfl
  case o15x5 =>
    intro ptrs w' hw hE
    exact opE_call (.val (.agg (chA (cho d s N (layL [] E))))) rfl _ 15 Try.call15 rfl rfl _ rfl [.agg (idA d), .agg (idA s), .slice an N.length cn, .slice lat (layL [] E).length lct] rfl ((Calls.valV (rchoose_any _ d s hd hs an cn N (HN.gro (GG.drew.trans hw)) hNl lat lct (layL [] E) (HLt.gro ((Gro.refl _).drew.trans hw)).re hLl) (by rw [cho_eq])).mono fun e w' ⟨he, hg⟩ => ⟨_, he, hg, rfl⟩)
  case o16x5 =>
    intro ptrs w' hw hE
    exact opE_call (.val (.bool true)) rfl _ 13 Try.call13 rfl rfl _ rfl [.agg (chA (cho d s N (layL [] E))), .agg (chA (cho d s N (layL [] E)))] rfl ((Calls.bool (samec_any (cho d s N (layL [] E)) (cho d s N (layL [] E)) (cho_ok hs HN.all hAll) (cho_ok hs HN.all hAll) _) (decide_eq_true rfl)).mono fun e w' ⟨he, hg⟩ => ⟨_, he, hg, rfl⟩)
  case o17x5 => exact fun _ _ _ _ => opE_value (v := .bool false) rfl (run_nt _ _ rfl true rfl)
  intro ptrs w8 GD hxE
  simp only [List.drop_succ_cons, List.drop_zero]
  replace kg1 := GD.has kg1
  replace kg2 := GD.has kg2
  replace kgS := GD.has kgS
  replace kt := GD.has kt
  replace HTt := HTt.gro ((Gro.refl _).drew.trans GD)
  replace HLt := HLt.gro ((Gro.refl _).drew.trans GD)
  replace HR2 := HR2.gro ((Gro.refl _).drew.trans GD)
  replace HO2 := HO2.gro ((Gro.refl _).drew.trans GD)
  replace HR3 := HR3.gro ((Gro.refl _).drew.trans GD)
  replace HO3 := HO3.gro ((Gro.refl _).drew.trans GD)
  replace GG := GG.drew.trans GD
  clear GD
  refine s_val 52 rfl rfl (.bool false) (rfl) ?_
  refine nr ?_; intro U h; simp only [z0, z1] at h; subst h
  refine wpList_nil ?_
  refine then_n ?_
  refine wp_cond_false rfl ?_
  refine wp_skip ?_
  refine then_n ?_
  refine wp_seq ?_
  refine wp_seq ?_
  refine wp_region_lit ?_
  refine s_val 53 rfl rfl (.slice ao2 (knw s N (layL [] E)).length cap2) (rfl) ?_
  refine nr ?_; intro U h; simp only [z0, z1] at h; subst h
  refine s_val 54 rfl rfl (.int .i64 (((knw s N (layL [] E)).length : Nat) : Int)) (run_len Try.underlying32 _ rfl _ _ _ rfl _) ?_
  refine nr ?_; intro U h; simp only [z0, z1] at h; subst h
  refine s_val 55 rfl rfl (.int .i64 0) (rfl) ?_
  refine nr ?_; intro U h; simp only [z0, z1] at h; subst h
  refine wpList_nil ?_
  refine then_n ?_
  refine wp_block ?_
  refine wp_loopN (fun mz az wv => ∃ (i : Nat) (us1 : Nat → Value), mz = (knw s N (layL [] E)).length + 1 - i ∧ az = ⟨[.agg (idA d), .agg (plA s an N.length cn ae E.length ce), .pointer (some ⟨g1, 0, none⟩), .pointer (some ⟨g2, 0, none⟩), us1 0, .pointer (some ⟨gS, 0, none⟩), .slice an N.length cn, .slice ae E.length ce, .pointer (some ⟨t, 0, none⟩), .slice lat (layL [] E).length lct, .slice ao2 (knw s N (layL [] E)).length cap2, .slice ao3 (knw s N (layL [] E)).length cap3, us1 1, .pointer (some ⟨g2, 0, none⟩), .agg (idA s), .pointer (some ⟨g2, 16, none⟩), .slice an N.length cn, .pointer (some ⟨g2, 17, none⟩), .slice ae E.length ce, .tuple #[.pointer (some ⟨t, 0, none⟩), .slice lat (layL [] E).length lct], .slice ae E.length ce, .tuple #[.pointer (some ⟨t, 0, none⟩), .slice lat (layL [] E).length lct], .pointer (some ⟨t, 0, none⟩), .slice lat (layL [] E).length lct, .bool true, .bool false, .agg (idA s), .slice an N.length cn, .pointer (some ⟨t, 0, none⟩), .slice ao2 (knw s N (layL [] E)).length cap2, .agg (idA s), .slice an N.length cn, .slice lat (layL [] E).length lct, .slice ao3 (knw s N (layL [] E)).length cap3, .slice ao2 (knw s N (layL [] E)).length cap2, .int .i64 (((knw s N (layL [] E)).length : Nat) : Int), .slice ao3 (knw s N (layL [] E)).length cap3, .int .i64 (((knw s N (layL [] E)).length : Nat) : Int), .bool false, .bool false, .agg (idA d), .agg (idA s), .slice an N.length cn, .pointer (some ⟨t, 0, none⟩), .agg (chA (cho d s N (layL [] E))), .agg (idA d), .agg (idA s), .slice an N.length cn, .slice lat (layL [] E).length lct, .agg (chA (cho d s N (layL [] E))), .bool true, .bool false, .bool false, .slice ao2 (knw s N (layL [] E)).length cap2, .int .i64 (((knw s N (layL [] E)).length : Nat) : Int), .int .i64 ((i : Nat) : Int), us1 2, us1 3, us1 4, us1 5, us1 6, us1 7, us1 8, us1 9, us1 10, us1 11, us1 12, us1 13, us1 14].toArray, []⟩ ∧ i ≤ (knw s N (layL [] E)).length ∧ Gro w wv ∧ RK kC wv ao2 cap2 (knw s N (layL [] E)) ∧ RK kC wv ao3 cap3 (knw s N (layL [] E))) ?_ _ ⟨0, (fun kz => ([.bool false, undef, undef, undef, undef, undef, undef, undef, undef, undef, undef, undef, undef, undef, undef] : List Value).getD kz undef), rfl, rfl, Nat.zero_le _, GG, HR2, HR3⟩
  clear GG HR2 HR3
  rintro mz az wv ⟨i, us1, rfl, rfl, hi, GG, HR2, HR3⟩
  have hkl := knw_b (s := s) hNl hLl
  refine wp_seq ?_
  refine wp_region_lit ?_
  cases hi1 : decide (((i : Nat) : Int) < (((knw s N (layL [] E)).length : Nat) : Int))
  · have hie : i = (knw s N (layL [] E)).length := by have := of_decide_eq_false hi1; omega
    refine s_val 56 rfl rfl (.bool false) (run_lssT 3 _ _ _ rfl ((i : Nat) : Int) (((knw s N (layL [] E)).length : Nat) : Int) rfl rfl false hi1 _) ?_
    refine nr ?_; intro U h; simp only [z0, z1] at h; subst h
    refine wpList_nil ?_
    refine then_n ?_
    refine wp_seq ?_
    refine wp_cond_false rfl ?_
    refine wp_exit ?_
    refine then_x ?_
    refine then_x ?_
    refine blk_x ?_
    refine then_n ?_
    refine wp_seq ?_
    refine wp_region_lit ?_
    refine s_val 4 rfl rfl (.bool true) (rfl) ?_
    refine nr ?_; intro U h; simp only [z0, z1] at h; subst h
    refine wpList_nil ?_
    refine then_n ?_
    refine wp_ret ?_
    refine bodyPost_ret (results_tmp Try.results3 _ _ _) rfl ?_
    exact ⟨rfl, GG⟩
  · have hil : i < (knw s N (layL [] E)).length := by have := of_decide_eq_true hi1; omega
    refine s_val 56 rfl rfl (.bool true) (run_lssT 3 _ _ _ rfl ((i : Nat) : Int) (((knw s N (layL [] E)).length : Nat) : Int) rfl rfl true hi1 _) ?_
    refine nr ?_; intro U h; simp only [z0, z1] at h; subst h
    refine wpList_nil ?_
    refine then_n ?_
    refine wp_seq ?_
    refine wp_cond_true rfl ?_
    refine wp_skip ?_
    refine then_n ?_
    refine wp_seq ?_
    refine wp_block ?_
    refine wp_seq ?_
    refine wp_region_lit ?_
    refine s_val 57 rfl rfl (.int .i64 ((i : Nat) : Int)) (rfl) ?_
    refine nr ?_; intro U h; simp only [z0, z1] at h; subst h
    refine s_val 12 rfl rfl (.int .i64 ((i : Nat) : Int)) (rfl) ?_
    refine nr ?_; intro U h; simp only [z0, z1] at h; subst h
    refine wpList_nil ?_
    refine then_n ?_
    refine wp_seq ?_
    refine wp_region_exA (A := ?Ax6) 8 [(0, 58), (1, 59), (2, 60), (3, 61), (4, 62), (5, 63), (6, 64), (7, 65)] [.val (.slice ao2 (knw s N (layL [] E)).length cap2), .val (.int .i64 ((i : Nat) : Int)), .val (.pointer (pK kC ao2 i 0)), .val (.agg (chA ((knw s N (layL [] E)).getD i zC))), .val (.slice ao3 (knw s N (layL [] E)).length cap3), .val (.int .i64 ((i : Nat) : Int)), .val (.pointer (pK kC ao3 i 0)), .val (.agg (chA ((knw s N (layL [] E)).getD i zC)))] follows (by kernel_rfl) rfl ?hAx6 (opsA_cons ?o0x6 (opsA_cons ?o1x6 (opsA_cons ?o2x6 (opsA_cons ?o3x6 (opsA_cons ?o4x6 (opsA_cons ?o5x6 (opsA_cons ?o6x6 (opsA_cons ?o7x6 opsA_nil)))))))) ?restx6
    case hAx6 =>
      intro ptrs
      simp only [full, foldSlots, filledE, postE, List.foldl_cons, List.foldl_nil, List.getD_cons_zero, List.getD_cons_succ, fill_val, List.set_cons_zero, List.set_cons_succ]
      exact rfl
    case o0x6 => exact fun _ _ _ _ => opE_move (v := .slice ao2 (knw s N (layL [] E)).length cap2) _ rfl rfl rfl
    case o1x6 => exact fun _ _ _ _ => opE_move (v := .int .i64 ((i : Nat) : Int)) _ rfl rfl rfl
    case o2x6 => exact fun _ _ hw _ => opE_value (v := .pointer (pK kC ao2 i 0)) rfl (run_ixK rC (HR2.gro ((Gro.refl _).drew.trans hw)) _ _ rfl rfl i rfl (by omega))
    case o3x6 => exact fun _ _ hw _ => opE_value (v := .agg (chA ((knw s N (layL [] E)).getD i zC))) rfl (run_ldKC (HR2.gro ((Gro.refl _).drew.trans hw)) _ rfl i rfl (by omega))
    case o4x6 => exact fun _ _ _ _ => opE_move (v := .slice ao3 (knw s N (layL [] E)).length cap3) _ rfl rfl rfl
    case o5x6 => exact fun _ _ _ _ => opE_move (v := .int .i64 ((i : Nat) : Int)) _ rfl rfl rfl
    case o6x6 => exact fun _ _ hw _ => opE_value (v := .pointer (pK kC ao3 i 0)) rfl (run_ixK rD (HR3.gro ((Gro.refl _).drew.trans hw)) _ _ rfl rfl i rfl (by omega))
    case o7x6 => exact fun _ _ hw _ => opE_value (v := .agg (chA ((knw s N (layL [] E)).getD i zC))) rfl (run_ldKD (HR3.gro ((Gro.refl _).drew.trans hw)) _ rfl i rfl (by omega))
    intro ptrs w9 GD hxE
    simp only [List.drop_succ_cons, List.drop_zero]
    replace HR2 := HR2.gro ((Gro.refl _).drew.trans GD)
    replace HR3 := HR3.gro ((Gro.refl _).drew.trans GD)
    replace GG := GG.drew.trans GD
    clear GD
    refine s_callv 66 rfl rfl _ 13 Try.call13 rfl rfl _ rfl [.agg (chA ((knw s N (layL [] E)).getD i zC)), .agg (chA ((knw s N (layL [] E)).getD i zC))] rfl (Calls.bool (samec_any ((knw s N (layL [] E)).getD i zC) ((knw s N (layL [] E)).getD i zC) (atC HKn hil) (atC HKn hil) _) (decide_eq_true rfl)) ?_
    intro w10 G
    replace HR2 := HR2.gro G
    replace HR3 := HR3.gro G
    replace GG := GG.trans G
    clear G
    refine nr ?_; intro U h; simp only [z0, z1] at h; subst h
    refine s_val 67 rfl rfl (.bool false) (run_nt _ _ rfl true rfl) ?_
    refine nr ?_; intro U h; simp only [z0, z1] at h; subst h
    refine wpList_nil ?_
    refine then_n ?_
    refine wp_cond_false rfl ?_
    refine wp_skip ?_
    refine blk_n ?_
    refine then_n ?_
    refine wp_region_lit ?_
    refine s_val 68 rfl rfl (.int .i64 ((i + 1 : Nat) : Int)) (run_addI 3 _ _ _ rfl ((i : Nat) : Int) 1 ((i + 1 : Nat) : Int) rfl rfl (by omega) (by omega) (by omega) _) ?_
    refine nr ?_; intro U h; simp only [z0, z1] at h; subst h
    refine s_val 55 rfl rfl (.int .i64 ((i + 1 : Nat) : Int)) (rfl) ?_
    refine nr ?_; intro U h; simp only [z0, z1] at h; subst h
    refine wpList_nil ?_
    refine then_n ?_
    exact ⟨(knw s N (layL [] E)).length + 1 - (i + 1), by omega, i + 1, (fun kz => ([us1 0, .int .i64 ((i : Nat) : Int), .bool true, .int .i64 ((i : Nat) : Int), .slice ao2 (knw s N (layL [] E)).length cap2, .int .i64 ((i : Nat) : Int), .pointer (pK kC ao2 i 0), .agg (chA ((knw s N (layL [] E)).getD i zC)), .slice ao3 (knw s N (layL [] E)).length cap3, .int .i64 ((i : Nat) : Int), .pointer (pK kC ao3 i 0), .agg (chA ((knw s N (layL [] E)).getD i zC)), .bool true, .bool false, .int .i64 ((i + 1 : Nat) : Int)] : List Value).getD kz undef), rfl, rfl, by omega, GG, HR2, HR3⟩
end Go.Proofs.Ytipfllalfifheaa
