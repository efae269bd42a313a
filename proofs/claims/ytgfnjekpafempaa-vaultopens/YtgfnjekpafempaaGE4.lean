/- Open; how many records, how much room, whether power failed. -/
import Derived.Test.YtgfnjekpafempaaGE3
namespace Go.Proofs.Ytgfnjekpafempaa
open Go.RowKit
structure LK (w : World) (lp p : Nat) (h : Hd) (dw : Bool) : Prop where
  box : w.heap[lp]? = some (.cells (c124 (some ⟨p, 0, none⟩) (h.g : Int) (h.u : Int) (h.c : Int) dw) 124 (0, 0))
theorem LK.gro {w w' : World} {lp p : Nat} {h : Hd} {dw : Bool} (H : LK w lp p h dw) (G : Gro w w') : LK w' lp p h dw := ⟨G.has H.box⟩
theorem LK.gros {S : List Nat} {w w' : World} {lp p : Nat} {h : Hd} {dw : Bool} (H : LK w lp p h dw) (G : GroS S w w') (hs : lp ∉ S) : LK w' lp p h dw := ⟨G.has H.box hs⟩
theorem LK.st {w w' : World} {lp p : Nat} {h : Hd} {dw : Bool} {g : Nat} {x : Obj} (H : LK w lp p h dw) (S : Stored w w' g x) (h1 : g ≠ lp) : LK w' lp p h dw := ⟨S.has (Ne.symm h1) H.box⟩
theorem LK.below {w w' : World} {lp p B : Nat} {h : Hd} {dw : Bool} (H : LK w lp p h dw) (G : Below B w w') (h1 : lp < B) : LK w' lp p h dw := ⟨by rw [G.block lp h1]; exact H.box⟩
theorem readRecords_some (w : World) (p sg n : Nat) (L : List Nat) (pw dn : Int) (H : DK w p sg n L pw dn) (u : Nat) (hu : u + 2 ≤ n) (rs : List (List Nat)) (hr : prs (reg L u) = some rs) : Calls Try.prog 60 #[.pointer (some ⟨p, 0, none⟩), .int .i64 ((u : Nat) : Int)] w fun e w' => ∃ ao cap q, e = .returned (.tuple #[.slice ao (List.length q) cap, .bool true]) ∧ rs = q.map (·.2) ∧ Gro w w' ∧ RS w' w.heap.size ao cap q := by
  have := readRecords_any w p sg n L pw dn H u hu
  rw [hr] at this
  exact this
set_option maxRecDepth 100000 in
set_option maxHeartbeats 4000000 in
theorem open_good (w : World) (p sg n : Nat) (L : List Nat) (pw dn : Int) (H : DK w p sg n L pw dn) (hn : 3 ≤ n) (h1 : (cntE L).g ≤ 9223372036854775807) (h2 : (cntE L).u ≤ n - 2) (h3 : (cntE L).c ≤ (cntE L).u) (rs : List (List Nat)) (hr : prs (reg L (cntE L).u) = some rs) (hd : rs.length = (cntE L).c) : Calls Try.prog 37 #[.pointer (some ⟨p, 0, none⟩)] w fun e w' => ∃ lp ao cap q, e = .returned (.tuple #[.pointer (some ⟨lp, 0, none⟩), .slice ao (List.length q) cap, .int .i64 0]) ∧ rs = q.map (·.2) ∧ Gro w w' ∧ w.heap.size ≤ lp ∧ LK w' lp p (cntE L) false ∧ RS w' w.heap.size ao cap q := by
  refine s_enter Try.func37 rfl Try.ntmps37 [.pointer (some ⟨p, 0, none⟩)] [.pointer (some ⟨p, 0, none⟩), undef, undef, undef, undef, undef, undef, undef, undef, undef, undef, undef, undef, undef, undef, undef, undef, undef, undef, undef, undef, undef, undef, undef, undef, undef, undef, undef, undef, undef, undef, undef, undef, undef, undef, undef, undef, undef, undef, undef, undef, undef, undef, undef, undef, undef, undef, undef, undef, undef, undef, undef, undef, undef, undef] rfl ?_
  have GG := Gro.refl w
  have hn4 := H.le
  have hlt := cntE_lt H.byte
  have hlim : lim = 18446744073709551616 := rfl
  refine wp_seq ?_
  refine wp_region_lit ?_
  refine s_val 2 rfl rfl (.pointer none) (rfl) ?_
  refine nr ?_; intro U h; simp only [z0, z1] at h; subst h
  refine s_val 3 rfl rfl (.slice none 0 0) (rfl) ?_
  refine nr ?_; intro U h; simp only [z0, z1] at h; subst h
  refine s_val 4 rfl rfl (.int .i64 0) (rfl) ?_
  refine nr ?_; intro U h; simp only [z0, z1] at h; subst h
  refine wpList_nil ?_
  refine then_n ?_
  refine wp_seq ?_
  refine wp_seq ?_
  refine wp_region_lit ?_
  refine s_val 8 rfl rfl (.pointer (some ⟨p, 0, none⟩)) (rfl) ?_
  refine nr ?_; intro U h; simp only [z0, z1] at h; subst h
  refine s_callv 9 rfl rfl _ 43 Try.call43 rfl rfl _ rfl [.pointer (some ⟨p, 0, none⟩)] rfl (size_any _ p sg n L pw dn (H.gro GG)) ?_
  intro w1 G
  replace GG := GG.trans G
  clear G
  refine nr ?_; intro U h; simp only [z0, z1] at h; subst h
  refine s_val 10 rfl rfl (.bool false) (run_leqT 3 _ _ _ rfl ((n : Nat) : Int) 2 rfl rfl false (decide_eq_false (by omega)) _) ?_
  refine nr ?_; intro U h; simp only [z0, z1] at h; subst h
  refine wpList_nil ?_
  refine then_n ?_
  refine wp_cond_false rfl ?_
  refine wp_skip ?_
  refine then_n ?_
  refine wp_seq ?_
  refine wp_region_lit ?_
  refine s_val 11 rfl rfl (.pointer (some ⟨p, 0, none⟩)) (rfl) ?_
  refine nr ?_; intro U h; simp only [z0, z1] at h; subst h
  refine s_callv 12 rfl rfl _ 59 Try.call59 rfl rfl _ rfl [.pointer (some ⟨p, 0, none⟩)] rfl (counting_any _ p sg n L pw dn (H.gro GG) (by omega)) ?_
  intro w2 G
  replace GG := GG.trans G
  clear G
  refine nr ?_; intro U h; simp only [z0, z1] at h; subst h
  refine s_alloc 5 rfl rfl 119 rfl _ zv119 _ rfl ?_
  intro w3 g1 G eg1 kg1
  have bg1 := size_base GG eg1
  replace GG := GG.trans G
  clear G eg1
  refine nr ?_; intro U h; simp only [z0, z1] at h; subst h
  refine s_store rfl rfl 119 _ _ rfl g1 0 rfl (.agg (c119 (((cntE L).g : Nat) : Int) (((cntE L).u : Nat) : Int) (((cntE L).c : Nat) : Int))) rfl 119 _ kg1 (c119 (((cntE L).g : Nat) : Int) (((cntE L).u : Nat) : Int) (((cntE L).c : Nat) : Int)) rfl (by kernel_rfl) (Nat.le_of_ble_eq_true rfl) (by kernel_rfl) (c119 (((cntE L).g : Nat) : Int) (((cntE L).u : Nat) : Int) (((cntE L).c : Nat) : Int)) (by kernel_rfl) ?_
  intro w5 St
  replace GG := GG.store St bg1
  replace kg1 := St.new
  clear St
  refine wpList_nil ?_
  refine then_n ?_
  refine wp_seq ?_
  refine wp_seq ?_
  refine wp_region_exA (A := ?Ax6) 17 [(0, 13), (1, 14), (2, 15), (3, 16), (4, 17), (5, 18), (6, 19), (7, 20), (8, 21), (9, 22), (10, 23), (11, 24), (12, 25), (13, 26), (14, 27), (15, 28), (16, 29)] [.val (.pointer (some ⟨g1, 0, none⟩)), .val (.int .u64 (((cntE L).g : Nat) : Int)), .val (.bool false), .val (.bool false), .val (.pointer (some ⟨g1, 1, none⟩)), .val (.int .u64 (((cntE L).u : Nat) : Int)), .val (.pointer (some ⟨p, 0, none⟩)), .val (.int .i64 ((n : Nat) : Int)), .val (.int .i64 ((n - 2 : Nat) : Int)), .val (.int .u64 ((n - 2 : Nat) : Int)), .val (.bool false), .val (.bool false), .val (.bool false), .val (.pointer (some ⟨g1, 2, none⟩)), .val (.int .u64 (((cntE L).c : Nat) : Int)), .val (.pointer (some ⟨g1, 1, none⟩)), .val (.int .u64 (((cntE L).u : Nat) : Int))] follows (by kernel_rfl) rfl ?hAx6 (opsA_cons ?o0x6 (opsA_cons ?o1x6 (opsA_cons ?o2x6 (opsA_cons ?o3x6 (opsA_cons ?o4x6 (opsA_cons ?o5x6 (opsA_cons ?o6x6 (opsA_cons ?o7x6 (opsA_cons ?o8x6 (opsA_cons ?o9x6 (opsA_cons ?o10x6 (opsA_cons ?o11x6 (opsA_cons ?o12x6 (opsA_cons ?o13x6 (opsA_cons ?o14x6 (opsA_cons ?o15x6 (opsA_cons ?o16x6 opsA_nil))))))))))))))))) ?restx6
  case hAx6 =>
    intro ptrs
    simp only [full, foldSlots, filledE, postE, List.foldl_cons, List.foldl_nil, List.getD_cons_zero, List.getD_cons_succ, fill_val, List.set_cons_zero, List.set_cons_succ]
    exact rfl
  case o0x6 => exact fun _ _ hw _ => opE_value (v := .pointer (some ⟨g1, 0, none⟩)) rfl (run_fld 119 _ 0 rfl _ _ rfl _ (by kernel_rfl))
  case o1x6 => exact fun _ _ hw _ => opE_value (v := .int .u64 (((cntE L).g : Nat) : Int)) rfl (run_ldc 75 _ rfl g1 0 rfl 119 _ (hw.has kg1) (na75 _) _ rfl)
  case o2x6 => exact fun _ _ hw _ => opE_value (v := .bool false) rfl (run_gtrU 75 75 _ _ rfl (cntE L).g 9223372036854775807 rfl rfl false (by first | exact decide_eq_true (by omega) | exact decide_eq_false (by omega)) _)
  case o3x6 => exact fun _ _ _ _ => opE_move (v := .bool false) _ rfl rfl rfl
  case o4x6 => exact fun _ _ hw _ => opE_value (v := .pointer (some ⟨g1, 1, none⟩)) rfl (run_fld 119 _ 1 rfl _ _ rfl _ (by kernel_rfl))
  case o5x6 => exact fun _ _ hw _ => opE_value (v := .int .u64 (((cntE L).u : Nat) : Int)) rfl (run_ldc 75 _ rfl g1 1 rfl 119 _ (hw.has kg1) (na75 _) _ rfl)
  case o6x6 => exact fun _ _ _ _ => opE_move (v := .pointer (some ⟨p, 0, none⟩)) _ rfl rfl rfl
  case o7x6 => exact fun _ _ hw _ => opE_call (.val (.int .i64 ((n : Nat) : Int))) rfl _ 43 Try.call43 rfl rfl _ rfl [.pointer (some ⟨p, 0, none⟩)] rfl ((size_any _ p sg n L pw dn (H.gro (GG.drew.trans hw))).mono fun e w' ⟨he, hg⟩ => ⟨_, he, hg, rfl⟩)
  case o8x6 => exact fun _ _ hw _ => opE_value (v := .int .i64 ((n - 2 : Nat) : Int)) rfl (run_sub64 _ _ _ rfl ((n : Nat) : Int) 2 _ rfl rfl (by omega) (by omega) (by omega) _)
  case o9x6 => exact fun _ _ hw _ => opE_value (v := .int .u64 ((n - 2 : Nat) : Int)) rfl (conv325 _ rfl (n - 2) (by omega) rfl _)
  case o10x6 => exact fun _ _ hw _ => opE_value (v := .bool false) rfl (run_gtrU 75 75 _ _ rfl (cntE L).u (n - 2) rfl rfl false (by first | exact decide_eq_true (by omega) | exact decide_eq_false (by omega)) _)
  case o11x6 => exact fun _ _ _ _ => opE_pick (v := .bool false) _ _ _ rfl rfl false rfl rfl
  case o12x6 => exact fun _ _ _ _ => opE_move (v := .bool false) _ rfl rfl rfl
  case o13x6 => exact fun _ _ hw _ => opE_value (v := .pointer (some ⟨g1, 2, none⟩)) rfl (run_fld 119 _ 2 rfl _ _ rfl _ (by kernel_rfl))
  case o14x6 => exact fun _ _ hw _ => opE_value (v := .int .u64 (((cntE L).c : Nat) : Int)) rfl (run_ldc 75 _ rfl g1 2 rfl 119 _ (hw.has kg1) (na75 _) _ rfl)
  case o15x6 => exact fun _ _ hw _ => opE_value (v := .pointer (some ⟨g1, 1, none⟩)) rfl (run_fld 119 _ 1 rfl _ _ rfl _ (by kernel_rfl))
  case o16x6 => exact fun _ _ hw _ => opE_value (v := .int .u64 (((cntE L).u : Nat) : Int)) rfl (run_ldc 75 _ rfl g1 1 rfl 119 _ (hw.has kg1) (na75 _) _ rfl)
  intro ptrs w6 GD hxE
  simp only [List.drop_succ_cons, List.drop_zero]
  replace kg1 := GD.has kg1
  replace GG := GG.drew.trans GD
  clear GD
  refine s_gval 30 rfl rfl (.bool false) (run_gtrU 75 75 _ _ rfl (cntE L).c (cntE L).u rfl rfl false (by first | exact decide_eq_true (by omega) | exact decide_eq_false (by omega)) _) ?_
  refine nr ?_; intro U h; simp only [z0, z1] at h; subst h
  refine s_val 31 rfl rfl (.bool false) (rfl) ?_
  refine nr ?_; intro U h; simp only [z0, z1] at h; subst h
  refine wpList_nil ?_
  refine then_n ?_
  refine wp_cond_false rfl ?_
  refine wp_skip ?_
  refine then_n ?_
  refine wp_seq ?_
  refine wp_region_lit ?_
  refine s_val 33 rfl rfl (.pointer (some ⟨p, 0, none⟩)) (rfl) ?_
  refine nr ?_; intro U h; simp only [z0, z1] at h; subst h
  refine s_val 34 rfl rfl (.pointer (some ⟨g1, 1, none⟩)) (run_fld 119 _ 1 rfl _ _ rfl _ (by kernel_rfl)) ?_
  refine nr ?_; intro U h; simp only [z0, z1] at h; subst h
  refine s_val 35 rfl rfl (.int .u64 (((cntE L).u : Nat) : Int)) (run_ldc 75 _ rfl g1 1 rfl 119 _ kg1 (na75 _) _ rfl) ?_
  refine nr ?_; intro U h; simp only [z0, z1] at h; subst h
  refine s_val 36 rfl rfl (.int .i64 (((cntE L).u : Nat) : Int)) (conv253 _ rfl (cntE L).u (by omega) rfl _) ?_
  refine nr ?_; intro U h; simp only [z0, z1] at h; subst h
  refine s_callx 37 rfl rfl _ 60 Try.call60 rfl rfl _ rfl [.pointer (some ⟨p, 0, none⟩), .int .i64 (((cntE L).u : Nat) : Int)] rfl (readRecords_some _ p sg n L pw dn (H.gro GG) (cntE L).u (by omega) rs hr) (fun _ _ ⟨_, _, _, he, _⟩ => ⟨_, he⟩) ?_
  rintro v w7 ⟨ao, cap, q, he, hrq, G, HL⟩
  cases he
  subst hrq
  have hql : (q.map (·.2)).length = q.length := List.length_map _
  have bRS := GG.size
  replace kg1 := G.has kg1
  replace GG := GG.trans G
  clear G
  refine nr ?_; intro U h; simp only [z0, z1] at h; subst h
  have hqlim : q.length < 9223372036854775808 := by have := HL.ox.xc.fit; have h2 := cap_le HL.ox; omega
  refine s_val 32 rfl rfl (.tuple #[.slice ao q.length cap, .bool true]) (rfl) ?_
  refine nr ?_; intro U h; simp only [z0, z1] at h; subst h
  refine s_val 38 rfl rfl (.slice ao q.length cap) (rfl) ?_
  refine nr ?_; intro U h; simp only [z0, z1] at h; subst h
  refine s_val 39 rfl rfl (.bool true) (rfl) ?_
  refine nr ?_; intro U h; simp only [z0, z1] at h; subst h
  refine s_val 6 rfl rfl (.slice ao q.length cap) (rfl) ?_
  refine nr ?_; intro U h; simp only [z0, z1] at h; subst h
  refine s_val 7 rfl rfl (.bool true) (rfl) ?_
  refine nr ?_; intro U h; simp only [z0, z1] at h; subst h
  refine wpList_nil ?_
  refine then_n ?_
  refine wp_seq ?_
  refine wp_seq ?_
  refine wp_region_opq ?_
  intro OPS hY
  have y2 := hY 2 42 rfl
  clear hY
  refine s_val 40 rfl rfl (.bool true) (rfl) ?_
  refine nr ?_; intro U h; simp only [z0, z1] at h; subst h
  refine s_val 41 rfl rfl (.bool false) (run_nt _ _ rfl true rfl) ?_
  refine nr ?_; intro U h; simp only [z0, z1] at h; subst h
  refine s_val 42 rfl rfl (.bool false) (rfl) ?_
  refine nr ?_; intro U h; simp only [z0, z1] at h; subst h
  refine s_gvalY 43 rfl rfl y2 rfl (.slice ao q.length cap) (rfl) ?_
  refine nr ?_; intro U h; simp only [z0, z1] at h; subst h
  refine s_gvalY 44 rfl rfl y2 rfl (.int .i64 ((q.length : Nat) : Int)) (run_len Try.underlying22 _ rfl _ _ _ rfl _) ?_
  refine nr ?_; intro U h; simp only [z0, z1] at h; subst h
  refine s_gvalY 45 rfl rfl y2 rfl (.int .u64 ((q.length : Nat) : Int)) (conv325 _ rfl q.length (by omega) rfl _) ?_
  refine nr ?_; intro U h; simp only [z0, z1] at h; subst h
  refine s_gvalY 46 rfl rfl y2 rfl (.pointer (some ⟨g1, 2, none⟩)) (run_fld 119 _ 2 rfl _ _ rfl _ (by kernel_rfl)) ?_
  refine nr ?_; intro U h; simp only [z0, z1] at h; subst h
  refine s_gvalY 47 rfl rfl y2 rfl (.int .u64 (((cntE L).c : Nat) : Int)) (run_ldc 75 _ rfl g1 2 rfl 119 _ kg1 (na75 _) _ rfl) ?_
  refine nr ?_; intro U h; simp only [z0, z1] at h; subst h
  refine s_gvalY 48 rfl rfl y2 rfl (.bool false) (run_neq_k 75 .u64 _ _ _ rfl Try.underlying75 ((q.length : Nat) : Int) (((cntE L).c : Nat) : Int) rfl rfl false (by first | exact decide_eq_true (by omega) | exact decide_eq_false (by omega)) _) ?_
  refine nr ?_; intro U h; simp only [z0, z1] at h; subst h
  refine s_val 49 rfl rfl (.bool false) (rfl) ?_
  refine nr ?_; intro U h; simp only [z0, z1] at h; subst h
  refine wpList_nil ?_
  refine then_n ?_
  refine wp_cond_false rfl ?_
  refine wp_skip ?_
  refine then_n ?_
  refine wp_seq ?_
  refine wp_region_lit ?_
  refine s_val 50 rfl rfl (.pointer (some ⟨p, 0, none⟩)) (rfl) ?_
  refine nr ?_; intro U h; simp only [z0, z1] at h; subst h
  refine s_val 51 rfl rfl (.agg (c119 (((cntE L).g : Nat) : Int) (((cntE L).u : Nat) : Int) (((cntE L).c : Nat) : Int))) (run_lda 119 _ rfl g1 0 3 rfl 119 _ kg1 _ Try.underlying119 rfl si119 (Nat.le_of_ble_eq_true rfl) _ (by kernel_rfl)) ?_
  refine nr ?_; intro U h; simp only [z0, z1] at h; subst h
  refine s_val 52 rfl rfl (.agg (c124 (some ⟨p, 0, none⟩) (((cntE L).g : Nat) : Int) (((cntE L).u : Nat) : Int) (((cntE L).c : Nat) : Int) false)) (run_bd 124 _ rfl [(0, .pointer (some ⟨p, 0, none⟩)), (1, .agg (c119 (((cntE L).g : Nat) : Int) (((cntE L).u : Nat) : Int) (((cntE L).c : Nat) : Int)))] rfl _ (by kernel_rfl)) ?_
  refine nr ?_; intro U h; simp only [z0, z1] at h; subst h
  refine s_box 53 rfl rfl 124 _ rfl _ rfl (c124 (some ⟨p, 0, none⟩) (((cntE L).g : Nat) : Int) (((cntE L).u : Nat) : Int) (((cntE L).c : Nat) : Int) false) rfl ?_
  intro w8 g2 G eg2 kg2
  have bg2 := size_base GG eg2
  have dg1g2 := lt_new kg1 eg2
  replace kg1 := G.has kg1
  replace HL := HL.gro G
  replace GG := GG.trans G
  clear G eg2
  refine nr ?_; intro U h; simp only [z0, z1] at h; subst h
  refine s_val 54 rfl rfl (.slice ao q.length cap) (rfl) ?_
  refine nr ?_; intro U h; simp only [z0, z1] at h; subst h
  refine s_val 2 rfl rfl (.pointer (some ⟨g2, 0, none⟩)) (rfl) ?_
  refine nr ?_; intro U h; simp only [z0, z1] at h; subst h
  refine s_val 3 rfl rfl (.slice ao q.length cap) (rfl) ?_
  refine nr ?_; intro U h; simp only [z0, z1] at h; subst h
  refine s_val 4 rfl rfl (.int .i64 0) (rfl) ?_
  refine nr ?_; intro U h; simp only [z0, z1] at h; subst h
  refine wpList_nil ?_
  refine then_n ?_
  refine wp_ret ?_
  refine bodyPost_ret (results_tmp3 Try.results37 _ _ _) rfl ?_
  exact ⟨g2, ao, cap, q, rfl, rfl, GG, bg2, ⟨kg2⟩, ⟨HL.ox.mono bRS, fun x hx => ⟨Nat.le_trans bRS (HL.row x hx).1, (HL.row x hx).2⟩⟩⟩
theorem open_ok (w : World) (p sg n : Nat) (L : List Nat) (pw dn : Int) (H : DK w p sg n L pw dn) (hn : 3 ≤ n) (rs : List (List Nat)) (ho : opE L n = some rs) : Calls Try.prog 37 #[.pointer (some ⟨p, 0, none⟩)] w fun e w' => ∃ lp ao cap q, e = .returned (.tuple #[.pointer (some ⟨lp, 0, none⟩), .slice ao (List.length q) cap, .int .i64 0]) ∧ rs = q.map (·.2) ∧ Gro w w' ∧ w.heap.size ≤ lp ∧ LK w' lp p (cntE L) false ∧ RS w' w.heap.size ao cap q := by
  by_cases h1 : 9223372036854775807 < (cntE L).g ∨ n - 2 < (cntE L).u ∨ (cntE L).u < (cntE L).c
  · rw [opE, if_pos h1] at ho
    cases ho
  rw [opE, if_neg h1] at ho
  cases hr : prs (reg L (cntE L).u) with
  | none => rw [hr] at ho; cases ho
  | some rs' =>
    rw [hr, Option.bind_some] at ho
    by_cases hd : rs'.length = (cntE L).c
    · rw [if_pos hd] at ho
      cases ho
      exact open_good w p sg n L pw dn H hn (by omega) (by omega) (by omega) rs hr hd
    · rw [if_neg hd] at ho
      cases ho
set_option maxRecDepth 100000 in
set_option maxHeartbeats 4000000 in
theorem room_any (w : World) (lp p : Nat) (h : Hd) (dw : Bool) (HK : LK w lp p h dw) (sg n : Nat) (L : List Nat) (pw dn : Int) (HD : DK w p sg n L pw dn) (hu : h.u + 2 ≤ n) : Calls Try.prog 65 #[.pointer (some ⟨lp, 0, none⟩)] w fun e w' => e = .returned (.int .i64 ((n - 2 - h.u : Nat) : Int)) ∧ Gro w w' := by
  refine s_enter Try.func65 rfl Try.ntmps65 [.pointer (some ⟨lp, 0, none⟩)] [.pointer (some ⟨lp, 0, none⟩), undef, undef, undef, undef, undef, undef, undef, undef, undef, undef, undef, undef, undef, undef, undef, undef, undef] rfl ?_
  have GG := Gro.refl w
  have klp := HK.box
  have hn4 := HD.le
  refine wp_seq ?_
  refine wp_region_lit ?_
  refine s_val 2 rfl rfl (.int .i64 0) (rfl) ?_
  refine nr ?_; intro U h; simp only [z0, z1] at h; subst h
  refine wpList_nil ?_
  refine then_n ?_
  refine wp_seq ?_
  refine wp_seq ?_
  refine wp_region_lit ?_
  refine s_val 3 rfl rfl (.pointer (some ⟨lp, 0, none⟩)) (rfl) ?_
  refine nr ?_; intro U h; simp only [z0, z1] at h; subst h
  refine s_val 4 rfl rfl (.bool false) (run_eqnp 86 _ _ _ rfl _ rfl rfl Try.underlying86 _) ?_
  refine nr ?_; intro U h; simp only [z0, z1] at h; subst h
  refine wpList_nil ?_
  refine then_n ?_
  refine wp_cond_false rfl ?_
  refine wp_skip ?_
  refine then_n ?_
  refine wp_seq ?_
  refine wp_region_exA (A := ?Ax7) 12 [(0, 5), (1, 6), (2, 7), (3, 8), (4, 9), (5, 10), (6, 11), (7, 12), (8, 13), (9, 14), (10, 15), (11, 16)] [.val (.pointer (some ⟨lp, 0, none⟩)), .val (.pointer (some ⟨lp, 0, none⟩)), .val (.pointer (some ⟨lp, 0, none⟩)), .val (.pointer (some ⟨p, 0, none⟩)), .val (.int .i64 ((n : Nat) : Int)), .val (.int .i64 ((n - 2 : Nat) : Int)), .val (.pointer (some ⟨lp, 0, none⟩)), .val (.pointer (some ⟨lp, 0, none⟩)), .val (.pointer (some ⟨lp, 1, none⟩)), .val (.pointer (some ⟨lp, 2, none⟩)), .val (.int .u64 ((h.u : Nat) : Int)), .val (.int .i64 ((h.u : Nat) : Int))] follows (by kernel_rfl) rfl ?hAx7 (opsA_cons ?o0x7 (opsA_cons ?o1x7 (opsA_cons ?o2x7 (opsA_cons ?o3x7 (opsA_cons ?o4x7 (opsA_cons ?o5x7 (opsA_cons ?o6x7 (opsA_cons ?o7x7 (opsA_cons ?o8x7 (opsA_cons ?o9x7 (opsA_cons ?o10x7 (opsA_cons ?o11x7 opsA_nil)))))))))))) ?restx7
  case hAx7 =>
    intro ptrs
    simp only [full, foldSlots, filledE, postE, List.foldl_cons, List.foldl_nil, List.getD_cons_zero, List.getD_cons_succ, fill_val, List.set_cons_zero, List.set_cons_succ]
    exact rfl
  case o0x7 => exact fun _ _ _ _ => opE_move (v := .pointer (some ⟨lp, 0, none⟩)) _ rfl rfl rfl
  case o1x7 => exact fun _ _ hw _ => opE_value (v := .pointer (some ⟨lp, 0, none⟩)) rfl (run_nc _ rfl _ rfl)
  case o2x7 => exact fun _ _ hw _ => opE_value (v := .pointer (some ⟨lp, 0, none⟩)) rfl (run_fld 124 _ 0 rfl _ _ rfl _ (by kernel_rfl))
  case o3x7 => exact fun _ _ hw _ => opE_value (v := .pointer (some ⟨p, 0, none⟩)) rfl (run_ldc 32 _ rfl lp 0 rfl 124 _ (hw.has klp) (na32 _) _ rfl)
  case o4x7 => exact fun _ _ hw _ => opE_call (.val (.int .i64 ((n : Nat) : Int))) rfl _ 43 Try.call43 rfl rfl _ rfl [.pointer (some ⟨p, 0, none⟩)] rfl ((size_any _ p sg n L pw dn (HD.gro (GG.drew.trans hw))).mono fun e w' ⟨he, hg⟩ => ⟨_, he, hg, rfl⟩)
  case o5x7 => exact fun _ _ hw _ => opE_value (v := .int .i64 ((n - 2 : Nat) : Int)) rfl (run_sub64 _ _ _ rfl ((n : Nat) : Int) 2 _ rfl rfl (by omega) (by omega) (by omega) _)
  case o6x7 => exact fun _ _ _ _ => opE_move (v := .pointer (some ⟨lp, 0, none⟩)) _ rfl rfl rfl
  case o7x7 => exact fun _ _ hw _ => opE_value (v := .pointer (some ⟨lp, 0, none⟩)) rfl (run_nc _ rfl _ rfl)
  case o8x7 => exact fun _ _ hw _ => opE_value (v := .pointer (some ⟨lp, 1, none⟩)) rfl (run_fld 124 _ 1 rfl _ _ rfl _ (by kernel_rfl))
  case o9x7 => exact fun _ _ hw _ => opE_value (v := .pointer (some ⟨lp, 2, none⟩)) rfl (run_fld 119 _ 1 rfl _ _ rfl _ (by kernel_rfl))
  case o10x7 => exact fun _ _ hw _ => opE_value (v := .int .u64 ((h.u : Nat) : Int)) rfl (run_ldc 75 _ rfl lp 2 rfl 124 _ (hw.has klp) (na75 _) _ rfl)
  case o11x7 => exact fun _ _ hw _ => opE_value (v := .int .i64 ((h.u : Nat) : Int)) rfl (conv253 _ rfl h.u (by omega) rfl _)
  intro ptrs w1 GD hxE
  simp only [List.drop_succ_cons, List.drop_zero]
  replace klp := GD.has klp
  replace GG := GG.drew.trans GD
  clear GD
  refine s_val 17 rfl rfl (.int .i64 ((n - 2 - h.u : Nat) : Int)) (run_sub64 _ _ _ rfl ((n - 2 : Nat) : Int) ((h.u : Nat) : Int) _ rfl rfl (by omega) (by omega) (by omega) _) ?_
  refine nr ?_; intro U h; simp only [z0, z1] at h; subst h
  refine s_val 2 rfl rfl (.int .i64 ((n - 2 - h.u : Nat) : Int)) (rfl) ?_
  refine nr ?_; intro U h; simp only [z0, z1] at h; subst h
  refine wpList_nil ?_
  refine then_n ?_
  refine wp_ret ?_
  refine bodyPost_ret (results_tmp Try.results65 _ _ _) rfl ?_
  exact ⟨rfl, GG⟩
set_option maxRecDepth 100000 in
set_option maxHeartbeats 4000000 in
theorem down_any (w : World) (lp p : Nat) (h : Hd) (dw : Bool) (HK : LK w lp p h dw) : Calls Try.prog 54 #[.pointer (some ⟨lp, 0, none⟩)] w fun e w' => e = .returned (.bool dw) ∧ Gro w w' := by
  refine s_enter Try.func54 rfl Try.ntmps54 [.pointer (some ⟨lp, 0, none⟩)] [.pointer (some ⟨lp, 0, none⟩), undef, undef, undef, undef, undef, undef, undef, undef, undef, undef] rfl ?_
  have GG := Gro.refl w
  have klp := HK.box
  refine wp_seq ?_
  refine wp_region_lit ?_
  refine s_val 2 rfl rfl (.bool false) (rfl) ?_
  refine nr ?_; intro U h; simp only [z0, z1] at h; subst h
  refine wpList_nil ?_
  refine then_n ?_
  refine wp_seq ?_
  refine wp_region_opq ?_
  intro OPS hY
  have y2 := hY 2 5 rfl
  clear hY
  refine s_val 3 rfl rfl (.pointer (some ⟨lp, 0, none⟩)) (rfl) ?_
  refine nr ?_; intro U h; simp only [z0, z1] at h; subst h
  refine s_val 4 rfl rfl (.bool true) (run_nenp 86 _ _ _ rfl _ rfl rfl Try.underlying86 _) ?_
  refine nr ?_; intro U h; simp only [z0, z1] at h; subst h
  refine s_val 5 rfl rfl (.bool true) (rfl) ?_
  refine nr ?_; intro U h; simp only [z0, z1] at h; subst h
  refine s_gvalY 6 rfl rfl y2 rfl (.pointer (some ⟨lp, 0, none⟩)) (rfl) ?_
  refine nr ?_; intro U h; simp only [z0, z1] at h; subst h
  refine s_gvalY 7 rfl rfl y2 rfl (.pointer (some ⟨lp, 0, none⟩)) (run_nc _ rfl _ rfl) ?_
  refine nr ?_; intro U h; simp only [z0, z1] at h; subst h
  refine s_gvalY 8 rfl rfl y2 rfl (.pointer (some ⟨lp, 4, none⟩)) (run_fld 124 _ 2 rfl _ _ rfl _ (by kernel_rfl)) ?_
  refine nr ?_; intro U h; simp only [z0, z1] at h; subst h
  refine s_gvalY 9 rfl rfl y2 rfl (.bool dw) (run_ldc 4 _ rfl lp 4 rfl 124 _ klp (na4 _) _ rfl) ?_
  refine nr ?_; intro U h; simp only [z0, z1] at h; subst h
  refine s_val 10 rfl rfl (.bool dw) (rfl) ?_
  refine nr ?_; intro U h; simp only [z0, z1] at h; subst h
  refine s_val 2 rfl rfl (.bool dw) (rfl) ?_
  refine nr ?_; intro U h; simp only [z0, z1] at h; subst h
  refine wpList_nil ?_
  refine then_n ?_
  refine wp_ret ?_
  refine bodyPost_ret (results_tmp Try.results54 _ _ _) rfl ?_
  exact ⟨rfl, GG⟩
end Go.Proofs.Ytgfnjekpafempaa
