/- Whoever knows more never chooses one that is farther away. -/
import Derived.Test.YtipfllalfifheaaR6
namespace Go.Proofs.Ytipfllalfifheaa
open Go.RowKit Go.Maps

theorem TM.apE {w w' : World} {B b : Nat} {ao : Option Addr} {cap : Nat} {l L : List En} (h : TM w b L) (ha : OE w B ao cap l) (G : GroS (blk ao) w w') : TM w' b L :=
  h.gros G fun hm => by
    obtain ⟨_, cur, hc⟩ := ha.own.at b hm
    exact h.nec hc rfl
theorem lay_more (E X : List En) : ∀ x ∈ layL [] E, x ∈ layL [] (E ++ X) := fun x hx => by
  rw [layL_two]
  exact layL_sub X _ x hx
set_option maxRecDepth 100000 in
set_option maxHeartbeats 4000000 in
theorem routeMore_any (w : World) (d s : Nat) (hd : d < top) (hs : s < top) (an : Option Addr) (cn : Nat) (N : List Nr) (HN : RK kN w an cn N) (hNl : N.length ≤ 600000) (ae : Option Addr) (ce : Nat) (E : List En) (HE : RE w ae ce E) (hEl : E.length ≤ 600000) (ax : Option Addr) (cx : Nat) (X : List En) (HX : RE w ax cx X) (hEX : E.length + X.length ≤ 600000) : Calls Try.prog 6 #[.agg (idA d), .agg (plA s an N.length cn ae E.length ce), .slice ax X.length cx] w (fun e w' => e = .returned (.bool true) ∧ Gro w w') := by
  refine s_enter Try.func6 rfl Try.ntmps6 [.agg (idA d), .agg (plA s an N.length cn ae E.length ce), .slice ax X.length cx] [.agg (idA d), .agg (plA s an N.length cn ae E.length ce), .slice ax X.length cx, undef, undef, undef, undef, undef, undef, undef, undef, undef, undef, undef, undef, undef, undef, undef, undef, undef, undef, undef, undef, undef, undef, undef, undef, undef, undef, undef, undef, undef, undef, undef, undef, undef, undef, undef, undef, undef, undef, undef, undef, undef, undef, undef, undef, undef, undef, undef, undef, undef, undef, undef, undef, undef, undef, undef, undef, undef, undef, undef, undef, undef] rfl ?_
  have GG := Gro.refl w
  have hAll : AllE (layL [] E) := layL_ok AllE.nil HE.all
  have hRis : Ris (layL [] E) := layL_ris AllE.nil Ris.nil HE.all
  have hLl : (layL [] E).length ≤ 1000 := Nat.le_trans (layL_le (by decide)) (by decide)
  have hEX2 : AllE (E ++ X) := HE.all.app HX.all
  have hAll2 : AllE (layL [] (E ++ X)) := layL_ok AllE.nil hEX2
  have hRis2 : Ris (layL [] (E ++ X)) := layL_ris AllE.nil Ris.nil hEX2
  have hLl2 : (layL [] (E ++ X)).length ≤ 1000 := Nat.le_trans (layL_le (by decide)) (by decide)
  refine wp_seq ?_
  refine wp_region_lit ?_
  refine s_box 3 rfl rfl 23 _ rfl _ rfl (idA d) rfl ?_
  intro w1 g1 G eg1 kg1
  have bg1 := size_base GG eg1
  replace GG := GG.trans G
  clear G
  clear eg1
  refine nr ?_; intro U h; simp only [z0, z1] at h; subst h
  refine s_box 4 rfl rfl 27 _ rfl _ rfl (plA s an N.length cn ae E.length ce) rfl ?_
  intro w2 g2 G eg2 kg2
  have bg2 := size_base GG eg2
  have dg1g2 := lt_new kg1 eg2
  replace kg1 := G.has kg1
  replace GG := GG.trans G
  clear G
  clear eg2
  refine nr ?_; intro U h; simp only [z0, z1] at h; subst h
  refine s_val 6 rfl rfl (.bool false) (rfl) ?_
  refine nr ?_; intro U h; simp only [z0, z1] at h; subst h
  refine wpList_nil ?_
  refine then_n ?_
  refine wp_seq ?_
  refine wp_region_g2A (A := ?Ax1) 9 [(0, 16), (1, 17), (2, 18), (3, 19), (4, 20), (5, 21), (6, 7), (8, 8)] [.val (.pointer (some ⟨g2, 0, none⟩)), .val (.agg (idA s)), .val (.pointer (some ⟨g2, 16, none⟩)), .val (.slice an N.length cn), .val (.pointer (some ⟨g2, 17, none⟩)), .val (.slice ae E.length ce), .new 23 (idA 0) (idA s) 7, .put 6, .val (.slice an N.length cn)] follows (by kernel_rfl) (by kernel_rfl) rfl ?hAx1 (opsA2_cons ?o0x1 (opsA2_cons ?o1x1 (opsA2_cons ?o2x1 (opsA2_cons ?o3x1 (opsA2_cons ?o4x1 (opsA2_cons ?o5x1 (opsA2_cons ?o6x1 (opsA2_cons ?o7x1 (opsA2_cons ?o8x1 opsA2_nil))))))))) ?restx1
  case hAx1 =>
    intro ptrs
    simp only [full, foldSlots, filled2, postAt2, List.foldl_cons, List.foldl_nil, List.getD_cons_zero, List.getD_cons_succ, PostS.fill, PostS.val, PostS.new, PostS.put, List.set_cons_zero, List.set_cons_succ]
    exact rfl
  case o0x1 => exact fun _ _ _ _ _ _ => OpOK2.of_val (ok_value (v := .pointer (some ⟨g2, 0, none⟩)) rfl (run_fld 27 _ 0 rfl g2 0 rfl 0 (by kernel_rfl)))
  case o1x1 => exact fun _ _ _ hw _ _ => OpOK2.of_val (ok_value (v := .agg (idA s)) rfl (ldLs _ rfl g2 rfl (hw.has kg2)))
  case o2x1 => exact fun _ _ _ _ _ _ => OpOK2.of_val (ok_value (v := .pointer (some ⟨g2, 16, none⟩)) rfl (run_fld 27 _ 1 rfl g2 0 rfl 16 (by kernel_rfl)))
  case o3x1 => exact fun _ _ _ hw _ _ => OpOK2.of_val (ok_value (v := .slice an N.length cn) rfl (ldLn _ rfl g2 rfl (hw.has kg2)))
  case o4x1 => exact fun _ _ _ _ _ _ => OpOK2.of_val (ok_value (v := .pointer (some ⟨g2, 17, none⟩)) rfl (run_fld 27 _ 2 rfl g2 0 rfl 17 (by kernel_rfl)))
  case o5x1 => exact fun _ _ _ hw _ _ => OpOK2.of_val (ok_value (v := .slice ae E.length ce) rfl (ldLe _ rfl g2 rfl (hw.has kg2)))
  case o6x1 => exact fun _ _ _ _ _ _ => OpOK2.of_new (ok_alloc rfl 23 rfl _ zero23)
  case o7x1 =>
    intro ptrs Lq wq hw hn hL
    obtain ⟨⟨gq, pq, kq, cq⟩, hz⟩ := hn
    have hL' : Lq 7 = false := hL
    have p' : ptrs 6 = .pointer (some ⟨gq, 0, none⟩) := pq
    have k' : wq.heap[gq]? = some (.cells (if Lq 7 = true then (idA s) else (idA 0)) 23 (0, 0)) := kq
    rw [hL'] at k'
    refine ok2_store rfl 23 _ _ rfl gq ?_ (idA s) rfl (idA 0) k' (size23' _) (idA_sz _ _) (idA_one _) rfl p' _
    show ptrs 6 = _
    exact p'
  case o8x1 => exact fun _ _ _ _ _ _ => OpOK2.of_val (ok_value (v := .slice an N.length cn) rfl rfl)
  intro ptrs Lz w3 GD hLz hnz hapz
  obtain ⟨⟨gS, pzgS, kgS, czgS⟩, hzz⟩ := hnz
  simp only [List.drop_succ_cons, List.drop_zero, pzgS]
  replace kgS : w3.heap[gS]? = some (.cells (idA s) 23 (0, 0)) := by
    have hL' : Lz 7 = true := by rw [hLz]; rfl
    have kk : w3.heap[gS]? = some (.cells (if Lz 7 = true then (idA s) else (idA 0)) 23 (0, 0)) := kgS
    rw [hL'] at kk
    exact kk
  clear hzz hapz hLz
  have dg1gS : g1 < gS := Nat.lt_of_lt_of_le (lt_of_heap kg1) czgS
  have dg2gS : g2 < gS := Nat.lt_of_lt_of_le (lt_of_heap kg2) czgS
  replace kg1 := GD.has kg1
  replace kg2 := GD.has kg2
  have bgS := Nat.le_trans GG.size czgS
  replace GG := GG.drew.trans GD
  clear GD pzgS czgS
  refine s_val 9 rfl rfl (.slice ae E.length ce) (rfl) ?_
  refine nr ?_; intro U h; simp only [z0, z1] at h; subst h
  refine wpList_nil ?_
  refine then_n ?_
  refine wp_seq ?_
  refine wp_region_lit ?_
  refine s_val 23 rfl rfl (.slice ae E.length ce) (rfl) ?_
  refine nr ?_; intro U h; simp only [z0, z1] at h; subst h
  refine s_callx 24 rfl rfl _ 9 Try.call9 rfl rfl _ rfl [.slice ae E.length ce] rfl (laid_any _ ae ce E (HE.gro GG) (le_big hEl)) (by rintro _ _ ⟨_, _, _, _, he, _⟩; exact ⟨_, he⟩) ?_
  rintro v w4 ⟨t, b, lat, lct, he, G, kt, HTt, HLt⟩
  cases he
  replace kg1 := G.has kg1
  replace kg2 := G.has kg2
  replace kgS := G.has kgS
  replace GG := GG.trans G
  clear G
  refine nr ?_; intro U h; simp only [z0, z1] at h; subst h
  refine s_val 22 rfl rfl (.tuple #[.pointer (some ⟨t, 0, none⟩), .slice lat (layL [] E).length lct]) (rfl) ?_
  refine nr ?_; intro U h; simp only [z0, z1] at h; subst h
  refine s_val 25 rfl rfl (.pointer (some ⟨t, 0, none⟩)) (rfl) ?_
  refine nr ?_; intro U h; simp only [z0, z1] at h; subst h
  refine s_val 26 rfl rfl (.slice lat (layL [] E).length lct) (rfl) ?_
  refine nr ?_; intro U h; simp only [z0, z1] at h; subst h
  refine s_val 10 rfl rfl (.pointer (some ⟨t, 0, none⟩)) (rfl) ?_
  refine nr ?_; intro U h; simp only [z0, z1] at h; subst h
  refine s_val 11 rfl rfl (.slice lat (layL [] E).length lct) (rfl) ?_
  refine nr ?_; intro U h; simp only [z0, z1] at h; subst h
  refine wpList_nil ?_
  refine then_n ?_
  refine wp_seq ?_
  refine wp_region_lit ?_
  refine s_bsl 28 rfl rfl 25 0 _ rfl [] rfl (flE []).toArray 57 (bs0 _) ?_
  intro w5 qq G eqq kqq
  have bqq := size_base GG eqq
  replace kg1 := G.has kg1
  replace kg2 := G.has kg2
  replace kgS := G.has kgS
  replace kt := G.has kt
  replace HTt := HTt.gro G
  replace GG := GG.trans G
  clear G
  clear eqq
  have HO : OE _ w.heap.size (some ⟨qq, 0, none⟩) 0 [] := OE.blk kqq AllE.nil bqq (by decide)
  clear kqq
  refine nr ?_; intro U h; simp only [z0, z1] at h; subst h
  refine s_val 29 rfl rfl (.slice ae E.length ce) (rfl) ?_
  refine nr ?_; intro U h; simp only [z0, z1] at h; subst h
  refine s_appE 30 rfl rfl _ _ rfl rfl HO rfl (HE.gro GG) (by simp only [List.length_nil]; omega) GG.size ?_
  intro ao2 cap2 w6 HO2 G2 _
  replace kg1 := G2.has kg1 (HO.own.ne kg1 (by decide))
  replace kg2 := G2.has kg2 (HO.own.ne kg2 (by decide))
  replace kgS := G2.has kgS (HO.own.ne kgS (by decide))
  replace kt := G2.has kt (HO.own.ne kt (by decide))
  replace HTt := HTt.apE HO G2
  replace GG := G2.gro GG (fun k hk => HO.own.base k hk)
  clear G2 HO
  have HO := HO2
  clear HO2
  refine nr ?_; intro U h; simp only [z0, z1] at h; subst h
  refine s_val 31 rfl rfl (.slice ax X.length cx) (rfl) ?_
  refine nr ?_; intro U h; simp only [z0, z1] at h; subst h
  refine s_appE 32 rfl rfl _ _ rfl rfl HO rfl (HX.gro GG) (by simp only [List.length_append, List.length_nil]; omega) GG.size ?_
  intro ao3 cap3 w7 HO2 G2 _
  replace kg1 := G2.has kg1 (HO.own.ne kg1 (by decide))
  replace kg2 := G2.has kg2 (HO.own.ne kg2 (by decide))
  replace kgS := G2.has kgS (HO.own.ne kgS (by decide))
  replace kt := G2.has kt (HO.own.ne kt (by decide))
  replace HTt := HTt.apE HO G2
  replace GG := G2.gro GG (fun k hk => HO.own.base k hk)
  clear G2 HO
  have HO := HO2
  clear HO2
  refine nr ?_; intro U h; simp only [z0, z1] at h; subst h
  refine s_callx 33 rfl rfl _ 9 Try.call9 rfl rfl _ rfl [.slice ao3 (E ++ X).length cap3] rfl (laid_any _ ao3 cap3 (E ++ X) HO.re (le_big (by rw [List.length_append]; exact hEX))) (by rintro _ _ ⟨_, _, _, _, he, _⟩; exact ⟨_, he⟩) ?_
  rintro v w8 ⟨t2, b2, lat2, lct2, he, G, kt2, HTt2, HLt2⟩
  cases he
  replace kg1 := G.has kg1
  replace kg2 := G.has kg2
  replace kgS := G.has kgS
  replace kt := G.has kt
  replace HTt := HTt.gro G
  replace HO := HO.gro G
  replace GG := GG.trans G
  clear G
  refine nr ?_; intro U h; simp only [z0, z1] at h; subst h
  refine s_val 27 rfl rfl (.tuple #[.pointer (some ⟨t2, 0, none⟩), .slice lat2 (layL [] (E ++ X)).length lct2]) (rfl) ?_
  refine nr ?_; intro U h; simp only [z0, z1] at h; subst h
  refine s_val 34 rfl rfl (.pointer (some ⟨t2, 0, none⟩)) (rfl) ?_
  refine nr ?_; intro U h; simp only [z0, z1] at h; subst h
  refine s_val 35 rfl rfl (.slice lat2 (layL [] (E ++ X)).length lct2) (rfl) ?_
  refine nr ?_; intro U h; simp only [z0, z1] at h; subst h
  refine s_val 12 rfl rfl (.pointer (some ⟨t2, 0, none⟩)) (rfl) ?_
  refine nr ?_; intro U h; simp only [z0, z1] at h; subst h
  refine s_val 13 rfl rfl (.slice lat2 (layL [] (E ++ X)).length lct2) (rfl) ?_
  refine nr ?_; intro U h; simp only [z0, z1] at h; subst h
  refine wpList_nil ?_
  refine then_n ?_
  refine wp_seq ?_
  refine wp_seq ?_
  refine wp_region_opq ?_
  intro OPS hY
  have y2 := hY 2 38 rfl
  clear hY
  refine s_val 36 rfl rfl (.pointer (some ⟨t, 0, none⟩)) (rfl) ?_
  refine nr ?_; intro U h; simp only [z0, z1] at h; subst h
  refine s_val 37 rfl rfl (.bool false) (run_eqnp 28 _ _ _ rfl _ rfl rfl Try.underlying28 _) ?_
  refine nr ?_; intro U h; simp only [z0, z1] at h; subst h
  refine s_val 38 rfl rfl (.bool false) (rfl) ?_
  refine nr ?_; intro U h; simp only [z0, z1] at h; subst h
  refine s_gvalY 39 rfl rfl y2 rfl (.pointer (some ⟨t, 0, none⟩)) (rfl) ?_
  refine nr ?_; intro U h; simp only [z0, z1] at h; subst h
  refine s_gcallvY 40 rfl rfl y2 rfl _ 20 Try.call20 rfl rfl _ rfl [.pointer (some ⟨t, 0, none⟩)] rfl (len_any _ t b 128 (layL [] E) (kt) (HTt)) ?_
  intro w9 G
  replace kg1 := G.has kg1
  replace kg2 := G.has kg2
  replace kgS := G.has kgS
  replace kt := G.has kt
  replace kt2 := G.has kt2
  replace HTt := HTt.gro G
  replace HO := HO.gro G
  replace HTt2 := HTt2.gro G
  replace HLt2 := HLt2.gro G
  replace GG := GG.trans G
  clear G
  refine nr ?_; intro U h; simp only [z0, z1] at h; subst h
  cases h128 : decide (128 ≤ (((layL [] E).length : Nat) : Int))
  · refine s_gvalY 41 rfl rfl y2 rfl (.bool false) (run_geqT 3 _ _ _ rfl (((layL [] E).length : Nat) : Int) 128 rfl rfl false h128 _) ?_
    refine nr ?_; intro U h; simp only [z0, z1] at h; subst h
    refine s_val 42 rfl rfl (.bool false) (rfl) ?_
    refine nr ?_; intro U h; simp only [z0, z1] at h; subst h
    refine wpList_nil ?_
    refine then_n ?_
    refine wp_cond_false rfl ?_
    refine wp_skip ?_
    refine then_n ?_
    refine wp_seq ?_
    refine wp_region_g2A (A := ?Ax2) 12 [(0, 44), (1, 45), (2, 46), (3, 47), (4, 48), (5, 49), (6, 50), (7, 51), (8, 52), (9, 53), (10, 14), (11, 15)] [.val (.agg (idA d)), .val (.agg (idA s)), .val (.slice an N.length cn), .val (.pointer (some ⟨t, 0, none⟩)), .val (.agg (chA (cho d s N (layL [] E)))), .val (.agg (idA d)), .val (.agg (idA s)), .val (.slice an N.length cn), .val (.pointer (some ⟨t2, 0, none⟩)), .val (.agg (chA (cho d s N (layL [] (E ++ X))))), .new 40 (chA zC) (chA zC) 999, .new 40 (chA zC) (chA zC) 999] follows (by kernel_rfl) (by kernel_rfl) rfl ?hAx2 (opsA2_cons ?o0x2 (opsA2_cons ?o1x2 (opsA2_cons ?o2x2 (opsA2_cons ?o3x2 (opsA2_cons ?o4x2 (opsA2_cons ?o5x2 (opsA2_cons ?o6x2 (opsA2_cons ?o7x2 (opsA2_cons ?o8x2 (opsA2_cons ?o9x2 (opsA2_cons ?o10x2 (opsA2_cons ?o11x2 opsA2_nil)))))))))))) ?restx2
    case hAx2 =>
      intro ptrs
      simp only [full, foldSlots, filled2, postAt2, List.foldl_cons, List.foldl_nil, List.getD_cons_zero, List.getD_cons_succ, PostS.fill, PostS.val, PostS.new, List.set_cons_zero, List.set_cons_succ]
      exact rfl
    case o0x2 => exact fun _ _ _ hw _ _ => OpOK2.of_val (ok_value (v := .agg (idA d)) rfl (ldI0 _ rfl g1 rfl (hw.has kg1)))
    case o1x2 => exact fun _ _ _ hw _ _ => OpOK2.of_val (ok_value (v := .agg (idA s)) rfl (ldI0 _ rfl gS rfl (hw.has kgS)))
    case o2x2 => exact fun _ _ _ _ _ _ => OpOK2.of_val (ok_value (v := .slice an N.length cn) rfl rfl)
    case o3x2 => exact fun _ _ _ _ _ _ => OpOK2.of_val (ok_value (v := .pointer (some ⟨t, 0, none⟩)) rfl rfl)
    case o4x2 => exact fun _ _ _ hw _ _ => OpOK2.of_val (ok_call rfl _ 14 Try.call14 rfl rfl _ rfl [.agg (idA d), .agg (idA s), .slice an N.length cn, .pointer (some ⟨t, 0, none⟩)] rfl _ (choose_any _ d s hd hs an cn N (HN.gro (GG.drew.trans hw)) hNl t b 128 (layL [] E) (hw.has kt) (HTt.gro ((Gro.refl _).drew.trans hw)) hRis hLl))
    case o5x2 => exact fun _ _ _ hw _ _ => OpOK2.of_val (ok_value (v := .agg (idA d)) rfl (ldI0 _ rfl g1 rfl (hw.has kg1)))
    case o6x2 => exact fun _ _ _ hw _ _ => OpOK2.of_val (ok_value (v := .agg (idA s)) rfl (ldI0 _ rfl gS rfl (hw.has kgS)))
    case o7x2 => exact fun _ _ _ _ _ _ => OpOK2.of_val (ok_value (v := .slice an N.length cn) rfl rfl)
    case o8x2 => exact fun _ _ _ _ _ _ => OpOK2.of_val (ok_value (v := .pointer (some ⟨t2, 0, none⟩)) rfl rfl)
    case o9x2 => exact fun _ _ _ hw _ _ => OpOK2.of_val (ok_call rfl _ 14 Try.call14 rfl rfl _ rfl [.agg (idA d), .agg (idA s), .slice an N.length cn, .pointer (some ⟨t2, 0, none⟩)] rfl _ (choose_any _ d s hd hs an cn N (HN.gro (GG.drew.trans hw)) hNl t2 b2 128 (layL [] (E ++ X)) (hw.has kt2) (HTt2.gro ((Gro.refl _).drew.trans hw)) hRis2 hLl2))
    case o10x2 => exact fun _ _ _ _ _ _ => OpOK2.of_new (ok_alloc rfl 40 rfl _ zeroC)
    case o11x2 => exact fun _ _ _ _ _ _ => OpOK2.of_new (ok_alloc rfl 40 rfl _ zeroC)
    intro ptrs Lz w10 GD hLz hnz hapz
    obtain ⟨⟨ga, pzga, kga, czga⟩, ⟨⟨gb, pzgb, kgb, czgb⟩, hzz⟩⟩ := hnz
    simp only [List.drop_succ_cons, List.drop_zero, pzga, pzgb]
    replace kga : w10.heap[ga]? = some (.cells (chA zC) 40 (0, 0)) := by
      have kk : w10.heap[ga]? = some (.cells (if Lz 999 = true then (chA zC) else (chA zC)) 40 (0, 0)) := kga
      rwa [ite_self] at kk
    replace kgb : w10.heap[gb]? = some (.cells (chA zC) 40 (0, 0)) := by
      have kk : w10.heap[gb]? = some (.cells (if Lz 999 = true then (chA zC) else (chA zC)) 40 (0, 0)) := kgb
      rwa [ite_self] at kk
    have ngagb : ga ≠ gb := fun e => apart_two (i := 10) (j := 11) hapz (by kernel_rfl) (by rw [pzga, pzgb, e])
    clear hzz hapz hLz
    have dg1ga : g1 < ga := Nat.lt_of_lt_of_le (lt_of_heap kg1) czga
    have dg2ga : g2 < ga := Nat.lt_of_lt_of_le (lt_of_heap kg2) czga
    have dgSga : gS < ga := Nat.lt_of_lt_of_le (lt_of_heap kgS) czga
    have dtga : t < ga := Nat.lt_of_lt_of_le (lt_of_heap kt) czga
    have dt2ga : t2 < ga := Nat.lt_of_lt_of_le (lt_of_heap kt2) czga
    have dHTtga := HTt.neG czga
    have dHOga := HO.neG czga
    have dHTt2ga := HTt2.neG czga
    have dHLt2ga := HLt2.neG czga
    have dg1gb : g1 < gb := Nat.lt_of_lt_of_le (lt_of_heap kg1) czgb
    have dg2gb : g2 < gb := Nat.lt_of_lt_of_le (lt_of_heap kg2) czgb
    have dgSgb : gS < gb := Nat.lt_of_lt_of_le (lt_of_heap kgS) czgb
    have dtgb : t < gb := Nat.lt_of_lt_of_le (lt_of_heap kt) czgb
    have dt2gb : t2 < gb := Nat.lt_of_lt_of_le (lt_of_heap kt2) czgb
    have dHTtgb := HTt.neG czgb
    have dHOgb := HO.neG czgb
    have dHTt2gb := HTt2.neG czgb
    have dHLt2gb := HLt2.neG czgb
    replace kg1 := GD.has kg1
    replace kg2 := GD.has kg2
    replace kgS := GD.has kgS
    replace kt := GD.has kt
    replace kt2 := GD.has kt2
    replace HTt := HTt.gro ((Gro.refl _).drew.trans GD)
    replace HO := HO.gro ((Gro.refl _).drew.trans GD)
    replace HTt2 := HTt2.gro ((Gro.refl _).drew.trans GD)
    replace HLt2 := HLt2.gro ((Gro.refl _).drew.trans GD)
    have bga := Nat.le_trans GG.size czga
    have bgb := Nat.le_trans GG.size czgb
    replace GG := GG.drew.trans GD
    clear GD pzga czga pzgb czgb
    refine s_store rfl rfl 40 _ _ rfl ga 0 rfl (.agg (chA (cho d s N (layL [] E)))) rfl 40 _ kga (chA (cho d s N (layL [] E))) rfl (siC' _) (chA_fit _ _) (chA_one _) (chA (cho d s N (layL [] E))) (splice_whole _ _ (chA_sz _ _)) ?_
    intro w11 St
    have kS := kga
    replace kg1 := St.has (by omega) kg1
    replace kg2 := St.has (by omega) kg2
    replace kgS := St.has (by omega) kgS
    replace kt := St.has (by omega) kt
    replace kt2 := St.has (by omega) kt2
    replace kgb := St.has (by omega) kgb
    replace HTt := HTt.st St dHTtga
    replace HO := HO.st St dHOga
    replace HTt2 := HTt2.st St dHTt2ga
    replace HLt2 := HLt2.st St dHLt2ga
    replace GG := GG.store St bga
    replace kga := St.new
    clear St
    refine s_store rfl rfl 40 _ _ rfl gb 0 rfl (.agg (chA (cho d s N (layL [] (E ++ X))))) rfl 40 _ kgb (chA (cho d s N (layL [] (E ++ X)))) rfl (siC' _) (chA_fit _ _) (chA_one _) (chA (cho d s N (layL [] (E ++ X)))) (splice_whole _ _ (chA_sz _ _)) ?_
    intro w12 St
    have kS := kgb
    replace kg1 := St.has (by omega) kg1
    replace kg2 := St.has (by omega) kg2
    replace kgS := St.has (by omega) kgS
    replace kt := St.has (by omega) kt
    replace kt2 := St.has (by omega) kt2
    replace kga := St.has (by omega) kga
    replace HTt := HTt.st St dHTtgb
    replace HO := HO.st St dHOgb
    replace HTt2 := HTt2.st St dHTt2gb
    replace HLt2 := HLt2.st St dHLt2gb
    replace GG := GG.store St bgb
    replace kgb := St.new
    clear St
    refine wpList_nil ?_
    refine then_n ?_
    refine wp_seq ?_
    refine wp_region_opq ?_
    intro OPS hY
    have y1 := hY 1 55 rfl
    clear hY
    refine s_callv 54 rfl rfl _ 10 Try.call10 rfl rfl _ rfl [] rfl (fixed_any _) ?_
    intro w13 G
    replace kg1 := G.has kg1
    replace kg2 := G.has kg2
    replace kgS := G.has kgS
    replace kt := G.has kt
    replace kt2 := G.has kt2
    replace kga := G.has kga
    replace kgb := G.has kgb
    replace HTt := HTt.gro G
    replace HO := HO.gro G
    replace HTt2 := HTt2.gro G
    replace HLt2 := HLt2.gro G
    replace GG := GG.trans G
    clear G
    refine nr ?_; intro U h; simp only [z0, z1] at h; subst h
    refine s_val 55 rfl rfl (.bool true) (rfl) ?_
    refine nr ?_; intro U h; simp only [z0, z1] at h; subst h
    refine s_gvalY 56 rfl rfl y1 rfl (.agg (idA d)) (ldI0 _ rfl g1 rfl (kg1)) ?_
    refine nr ?_; intro U h; simp only [z0, z1] at h; subst h
    refine s_gvalY 57 rfl rfl y1 rfl (.pointer (some ⟨ga, 0, none⟩)) (run_fld 40 _ 0 rfl ga 0 rfl 0 (by kernel_rfl)) ?_
    refine nr ?_; intro U h; simp only [z0, z1] at h; subst h
    refine s_gvalY 58 rfl rfl y1 rfl (.agg (idA (cho d s N (layL [] E)).id)) (ldCi _ rfl ga rfl (kga)) ?_
    refine nr ?_; intro U h; simp only [z0, z1] at h; subst h
    refine s_gvalY 59 rfl rfl y1 rfl (.pointer (some ⟨gb, 0, none⟩)) (run_fld 40 _ 0 rfl gb 0 rfl 0 (by kernel_rfl)) ?_
    refine nr ?_; intro U h; simp only [z0, z1] at h; subst h
    refine s_gvalY 60 rfl rfl y1 rfl (.agg (idA (cho d s N (layL [] (E ++ X))).id)) (ldCi _ rfl gb rfl (kgb)) ?_
    refine nr ?_; intro U h; simp only [z0, z1] at h; subst h
    refine s_gcallvY 61 rfl rfl y1 rfl _ 19 Try.call19 rfl rfl _ rfl [.agg (idA d), .agg (idA (cho d s N (layL [] E)).id), .agg (idA (cho d s N (layL [] (E ++ X))).id)] rfl (Calls.bool (refnearer_any d (cho d s N (layL [] E)).id (cho d s N (layL [] (E ++ X))).id hd (cho_ok hs HN.all hAll).id (cho_ok hs HN.all hAll2).id _) (cho_more hd hs HN.all hAll2 (lay_more E X))) ?_
    intro w14 G
    replace kg1 := G.has kg1
    replace kg2 := G.has kg2
    replace kgS := G.has kgS
    replace kt := G.has kt
    replace kt2 := G.has kt2
    replace kga := G.has kga
    replace kgb := G.has kgb
    replace HTt := HTt.gro G
    replace HO := HO.gro G
    replace HTt2 := HTt2.gro G
    replace HLt2 := HLt2.gro G
    replace GG := GG.trans G
    clear G
    refine nr ?_; intro U h; simp only [z0, z1] at h; subst h
    refine s_gvalY 62 rfl rfl y1 rfl (.bool true) (run_nt _ _ rfl false rfl) ?_
    refine nr ?_; intro U h; simp only [z0, z1] at h; subst h
    refine s_val 63 rfl rfl (.bool true) (rfl) ?_
    refine nr ?_; intro U h; simp only [z0, z1] at h; subst h
    refine s_val 6 rfl rfl (.bool true) (rfl) ?_
    refine nr ?_; intro U h; simp only [z0, z1] at h; subst h
    refine wpList_nil ?_
    refine then_n ?_
    refine wp_ret ?_
    refine bodyPost_ret (results_tmp Try.results6 _ _ _) rfl ?_
    exact ⟨rfl, GG⟩
  · refine s_gvalY 41 rfl rfl y2 rfl (.bool true) (run_geqT 3 _ _ _ rfl (((layL [] E).length : Nat) : Int) 128 rfl rfl true h128 _) ?_
    refine nr ?_; intro U h; simp only [z0, z1] at h; subst h
    refine s_val 42 rfl rfl (.bool true) (rfl) ?_
    refine nr ?_; intro U h; simp only [z0, z1] at h; subst h
    refine wpList_nil ?_
    refine then_n ?_
    refine wp_cond_true rfl ?_
    refine wp_seq ?_
    refine wp_region_lit ?_
    refine s_callv 43 rfl rfl _ 10 Try.call10 rfl rfl _ rfl [] rfl (fixed_any _) ?_
    intro w10 G
    replace kg1 := G.has kg1
    replace kg2 := G.has kg2
    replace kgS := G.has kgS
    replace kt := G.has kt
    replace kt2 := G.has kt2
    replace HTt := HTt.gro G
    replace HO := HO.gro G
    replace HTt2 := HTt2.gro G
    replace HLt2 := HLt2.gro G
    replace GG := GG.trans G
    clear G
    refine nr ?_; intro U h; simp only [z0, z1] at h; subst h
    refine s_val 6 rfl rfl (.bool true) (rfl) ?_
    refine nr ?_; intro U h; simp only [z0, z1] at h; subst h
    refine wpList_nil ?_
    refine then_n ?_
    refine wp_ret ?_
    refine then_r ?_
    refine bodyPost_ret (results_tmp Try.results6 _ _ _) rfl ?_
    exact ⟨rfl, GG⟩
end Go.Proofs.Ytipfllalfifheaa
