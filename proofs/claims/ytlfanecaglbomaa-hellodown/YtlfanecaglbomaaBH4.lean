/- The program's end: what comes of a frame. -/
import Derived.Test.YtlfanecaglbomaaBH3
namespace Go.Proofs.Ytlfanecaglbomaa
open Go.RowKit
theorem GroS.p1 {p : Nat} {S : List Nat} {w w' : World} (h : GroS [p] w w') : GroS (p :: S) w w' := h.mono fun x hx => by
  cases List.mem_singleton.1 hx
  exact List.mem_cons_self
theorem GroS.p2 {p r : Nat} {S : List Nat} {w w' : World} (h : GroS [p, r] w w') : GroS (p :: r :: S) w w' := h.mono fun x hx => by
  rcases List.mem_cons.1 hx with rfl | hx
  · exact List.mem_cons_self
  · cases List.mem_singleton.1 hx
    exact List.mem_cons_of_mem _ List.mem_cons_self
theorem not_ty {x : World} {g r : Nat} {c c' : Array Value} {t t' : TypeId} (h : x.heap[g]? = some (.cells c t (0, 0))) (h' : x.heap[r]? = some (.cells c' t' (0, 0))) (ht : t ≠ t') : g ∉ [r] := fun hm => by
  cases List.mem_singleton.1 hm
  exact ne_type h h' ht rfl
/-- What is none of an end's. -/
structure NoB (b : Value) : Prop where
  t1 : ∀ w, (Instr.typeAssert b 106 110 true).run Try.prog w = .ok (.tuple #[.agg (c110 0 0 0 0 zF), .bool false]) w
  t2 : ∀ w, (Instr.typeAssert b 106 125 true).run Try.prog w = .ok (.tuple #[.agg (c125 0 0 0 0 0 Sl.nil), .bool false]) w
  t3 : ∀ w, (Instr.typeAssert b 106 129 true).run Try.prog w = .ok (.tuple #[.agg (c129 0 0 0 0 0), .bool false]) w
theorem NoB.nil : NoB .nilIface := ⟨fun w => by kernel_rfl, fun w => by kernel_rfl, fun w => by kernel_rfl⟩
theorem NoB.body (k : Nat) (h1 : 4 ≤ k) (h2 : k ≤ 12) (f : Fr) : NoB (bodyV k f) := by
  have : k = 4 ∨ k = 5 ∨ k = 6 ∨ k = 7 ∨ k = 8 ∨ k = 9 ∨ k = 10 ∨ k = 11 ∨ k = 12 := by omega
  rcases this with rfl | rfl | rfl | rfl | rfl | rfl | rfl | rfl | rfl <;> exact ⟨fun w => by kernel_rfl, fun w => by kernel_rfl, fun w => by kernel_rfl⟩
set_option maxRecDepth 100000 in
set_option maxHeartbeats 4000000 in
theorem greeted_less (w : World) (p wp B : Nat) (id : Nat → Nat) (up op : Bool) (mi mn pi pn : Int) (oth : Nat → Nat) (ro : Option Addr) (rc : Nat) (q : List RV) (k c : Nat) (H : EW w p wp B id up op mi mn pi pn oth ro rc q k c) (fi fn ti tn : Int) (a : Nat → Nat) (ni nn : Int) (hl : decide (cmpP fi fn pi pn < 0) = true) : Calls Try.prog 44 #[.pointer (some ⟨p, 0, none⟩), .agg (c110 fi fn ti tn a), .agg (c29 ni nn)] w (HearP w p id (p :: wp :: blk ro) (txb q) (⟨up, op, mi, mn, pi, pn, oth, k, (q.map (·.l)), c⟩, PT.no)) := by
  refine s_enter Try.func44 rfl Try.ntmps44 [.pointer (some ⟨p, 0, none⟩), .agg (c110 fi fn ti tn a), .agg (c29 ni nn)] [.pointer (some ⟨p, 0, none⟩), .agg (c110 fi fn ti tn a), .agg (c29 ni nn), undef, undef, undef, undef, undef, undef, undef, undef, undef, undef, undef, undef, undef, undef, undef, undef, undef, undef, undef, undef, undef, undef, undef, undef, undef, undef, undef, undef, undef, undef, undef, undef, undef, undef, undef, undef, undef, undef, undef, undef, undef, undef, undef, undef, undef, undef, undef, undef, undef, undef, undef, undef, undef, undef, undef, undef, undef, undef, undef, undef, undef, undef, undef, undef, undef, undef, undef, undef, undef, undef, undef, undef, undef, undef, undef, undef, undef, undef, undef, undef, undef, undef, undef] rfl ?_
  have GG := GroS.refl [p] w
  have kp := H.box
  have HW := H.win
  have hpl := lt_of_heap kp
  refine wp_seq ?_
  refine wp_region_lit ?_
  refine s_box 4 rfl rfl 110 _ rfl _ rfl (c110 fi fn ti tn a) rfl ?_
  intro w1 g1 G eg1 kg1
  have bg1 := size_basS GG eg1
  have dpg1 := lt_new kp eg1
  replace kp := G.has kp
  replace HW := HW.gro G
  replace GG := GG.tg G
  clear G eg1
  refine nr ?_; intro U h; simp only [z0, z1] at h; subst h
  refine s_box 5 rfl rfl 29 _ rfl _ rfl (c29 ni nn) rfl ?_
  intro w2 g2 G eg2 kg2
  have bg2 := size_basS GG eg2
  have dpg2 := lt_new kp eg2
  have dg1g2 := lt_new kg1 eg2
  replace kp := G.has kp
  replace kg1 := G.has kg1
  replace HW := HW.gro G
  replace GG := GG.tg G
  clear G eg2
  refine nr ?_; intro U h; simp only [z0, z1] at h; subst h
  refine s_alloc 6 rfl rfl 59 rfl _ zv59 _ rfl ?_
  intro w3 g3 G eg3 kg3
  have bg3 := size_basS GG eg3
  have dpg3 := lt_new kp eg3
  have dg1g3 := lt_new kg1 eg3
  have dg2g3 := lt_new kg2 eg3
  replace kp := G.has kp
  replace kg1 := G.has kg1
  replace kg2 := G.has kg2
  replace HW := HW.gro G
  replace GG := GG.tg G
  clear G eg3
  refine nr ?_; intro U h; simp only [z0, z1] at h; subst h
  refine wpList_nil ?_
  refine then_n ?_
  refine wp_seq ?_
  refine wp_region_exA (A := ?Ax1) 6 [(0, 11), (1, 12), (2, 13), (3, 14), (4, 15), (5, 16)] [.val (.pointer (some ⟨g1, 0, none⟩)), .val (.agg (c29 fi fn)), .val (.pointer (some ⟨p, 0, none⟩)), .val (.pointer (some ⟨p, 0, none⟩)), .val (.pointer (some ⟨p, 20, none⟩)), .val (.agg (c29 pi pn))] follows (by kernel_rfl) rfl ?hAx1 (opsA_cons ?o0x1 (opsA_cons ?o1x1 (opsA_cons ?o2x1 (opsA_cons ?o3x1 (opsA_cons ?o4x1 (opsA_cons ?o5x1 opsA_nil)))))) ?restx1
  case hAx1 =>
    intro ptrs
    simp only [full, foldSlots, filledE, postE, List.foldl_cons, List.foldl_nil, List.getD_cons_zero, List.getD_cons_succ, fill_val, List.set_cons_zero, List.set_cons_succ]
    exact rfl
  case o0x1 => exact fun _ _ hw _ => opE_value (v := .pointer (some ⟨g1, 0, none⟩)) rfl (run_fld 110 _ 0 rfl _ _ rfl _ (by kernel_rfl))
  case o1x1 => exact fun _ _ hw _ => opE_value (v := .agg (c29 fi fn)) rfl (run_lda 29 _ rfl g1 0 2 rfl 110 _ (hw.has kg1) _ Try.underlying29 rfl si29 (Nat.le_of_ble_eq_true rfl) _ (by kernel_rfl))
  case o2x1 => exact fun _ _ _ _ => opE_move (v := .pointer (some ⟨p, 0, none⟩)) _ rfl rfl rfl
  case o3x1 => exact fun _ _ hw _ => opE_value (v := .pointer (some ⟨p, 0, none⟩)) rfl (run_nc _ rfl _ rfl)
  case o4x1 => exact fun _ _ hw _ => opE_value (v := .pointer (some ⟨p, 20, none⟩)) rfl (run_fld 98 _ 4 rfl _ _ rfl _ (by kernel_rfl))
  case o5x1 => exact fun _ _ hw _ => opE_value (v := .agg (c29 pi pn)) rfl (run_lda 29 _ rfl p 20 2 rfl 98 _ (hw.has kp) _ Try.underlying29 rfl si29 (Nat.le_of_ble_eq_true rfl) _ (by kernel_rfl))
  intro ptrs w4 GD hxE
  simp only [List.drop_succ_cons, List.drop_zero]
  replace kp := GD.has kp
  replace kg1 := GD.has kg1
  replace kg2 := GD.has kg2
  replace kg3 := GD.has kg3
  replace HW := HW.gro ((Gro.refl _).drew.trans GD)
  replace GG := GG.drew.tg GD
  clear GD
  refine s_callv 17 rfl rfl _ 55 Try.call55 rfl rfl _ rfl [.agg (c29 fi fn), .agg (c29 pi pn)] rfl (compare_any _ fi fn pi pn) ?_
  intro w5 G
  replace kp := G.has kp
  replace kg1 := G.has kg1
  replace kg2 := G.has kg2
  replace kg3 := G.has kg3
  replace HW := HW.gro G
  replace GG := GG.tg G
  clear G
  refine nr ?_; intro U h; simp only [z0, z1] at h; subst h
  refine s_val 7 rfl rfl (.int .i64 (cmpP fi fn pi pn)) (rfl) ?_
  refine nr ?_; intro U h; simp only [z0, z1] at h; subst h
  refine wpList_nil ?_
  refine then_n ?_
  refine wp_seq ?_
  refine wp_seq ?_
  refine wp_region_opq ?_
  intro OPS hY
  have y2 := hY 2 20 rfl
  clear hY
  refine s_val 18 rfl rfl (.int .i64 (cmpP fi fn pi pn)) (rfl) ?_
  refine nr ?_; intro U h; simp only [z0, z1] at h; subst h
  refine s_val 19 rfl rfl (.bool true) (run_lssT 3 _ _ _ rfl (cmpP fi fn pi pn) 0 rfl rfl true hl _) ?_
  refine nr ?_; intro U h; simp only [z0, z1] at h; subst h
  refine s_val 20 rfl rfl (.bool true) (rfl) ?_
  refine nr ?_; intro U h; simp only [z0, z1] at h; subst h
  refine s_skipY 21 rfl rfl y2 rfl ?_
  refine nr ?_; intro U h; simp only [z0, z1] at h; subst h
  refine s_skipY 22 rfl rfl y2 rfl ?_
  refine nr ?_; intro U h; simp only [z0, z1] at h; subst h
  refine s_skipY 23 rfl rfl y2 rfl ?_
  refine nr ?_; intro U h; simp only [z0, z1] at h; subst h
  refine s_skipY 24 rfl rfl y2 rfl ?_
  refine nr ?_; intro U h; simp only [z0, z1] at h; subst h
  refine s_val 25 rfl rfl (.bool true) (rfl) ?_
  refine nr ?_; intro U h; simp only [z0, z1] at h; subst h
  refine wpList_nil ?_
  refine then_n ?_
  refine wp_cond_true rfl ?_
  refine wp_seq ?_
  refine wp_region_lit ?_
  refine s_val 26 rfl rfl (.agg (c59 false false Sl.nil false Sl.nil)) (run_bd 59 _ rfl [] rfl _ (by kernel_rfl)) ?_
  refine nr ?_; intro U h; simp only [z0, z1] at h; subst h
  refine s_store rfl rfl 59 _ _ rfl g3 0 rfl (.agg (c59 false false Sl.nil false Sl.nil)) rfl 59 _ kg3 (c59 false false Sl.nil false Sl.nil) rfl (by kernel_rfl) (Nat.le_of_ble_eq_true rfl) (by kernel_rfl) (c59 false false Sl.nil false Sl.nil) (by kernel_rfl) ?_
  intro w7 St
  replace kp := St.has (by omega) kp
  replace kg1 := St.has (by omega) kg1
  replace kg2 := St.has (by omega) kg2
  replace HW := HW.stT (by decide) (by decide) (by decide) kg3 St
  replace GG := GG.st St (.inl bg3)
  replace kg3 := St.new
  clear St
  refine wpList_nil ?_
  refine then_n ?_
  refine wp_ret ?_
  refine then_r ?_
  refine bodyPost_ret (results_cell_row Try.results44 _ _ g3 59 _ (0, 0) _ rfl kg3 Try.underlying59 rfl (by kernel_rfl)) rfl ?_
  exact ⟨_, (p :: wp :: blk ro), (txb q), rfl, TV.no _, ⟨wp, B, ro, rc, q, ⟨kp, HW⟩, rfl, rfl, rfl⟩, GG.p1, Fresh.refl _ _, Fresh.refl _ _⟩
set_option maxRecDepth 100000 in
set_option maxHeartbeats 4000000 in
theorem greeted_zero (w : World) (p wp B : Nat) (id : Nat → Nat) (up op : Bool) (mi mn pi pn : Int) (oth : Nat → Nat) (ro : Option Addr) (rc : Nat) (q : List RV) (k c : Nat) (H : EW w p wp B id up op mi mn pi pn oth ro rc q k c) (fi fn ti tn : Int) (a : Nat → Nat) (ni nn : Int) (hl : decide (cmpP fi fn pi pn < 0) = false) (hz : (decide (fi = 0) && decide (fn = 0)) = true) : Calls Try.prog 44 #[.pointer (some ⟨p, 0, none⟩), .agg (c110 fi fn ti tn a), .agg (c29 ni nn)] w (HearP w p id (p :: wp :: blk ro) (txb q) (⟨up, op, mi, mn, pi, pn, oth, k, (q.map (·.l)), c⟩, PT.no)) := by
  refine s_enter Try.func44 rfl Try.ntmps44 [.pointer (some ⟨p, 0, none⟩), .agg (c110 fi fn ti tn a), .agg (c29 ni nn)] [.pointer (some ⟨p, 0, none⟩), .agg (c110 fi fn ti tn a), .agg (c29 ni nn), undef, undef, undef, undef, undef, undef, undef, undef, undef, undef, undef, undef, undef, undef, undef, undef, undef, undef, undef, undef, undef, undef, undef, undef, undef, undef, undef, undef, undef, undef, undef, undef, undef, undef, undef, undef, undef, undef, undef, undef, undef, undef, undef, undef, undef, undef, undef, undef, undef, undef, undef, undef, undef, undef, undef, undef, undef, undef, undef, undef, undef, undef, undef, undef, undef, undef, undef, undef, undef, undef, undef, undef, undef, undef, undef, undef, undef, undef, undef, undef, undef, undef, undef] rfl ?_
  have GG := GroS.refl [p] w
  have kp := H.box
  have HW := H.win
  have hpl := lt_of_heap kp
  refine wp_seq ?_
  refine wp_region_lit ?_
  refine s_box 4 rfl rfl 110 _ rfl _ rfl (c110 fi fn ti tn a) rfl ?_
  intro w1 g1 G eg1 kg1
  have bg1 := size_basS GG eg1
  have dpg1 := lt_new kp eg1
  replace kp := G.has kp
  replace HW := HW.gro G
  replace GG := GG.tg G
  clear G eg1
  refine nr ?_; intro U h; simp only [z0, z1] at h; subst h
  refine s_box 5 rfl rfl 29 _ rfl _ rfl (c29 ni nn) rfl ?_
  intro w2 g2 G eg2 kg2
  have bg2 := size_basS GG eg2
  have dpg2 := lt_new kp eg2
  have dg1g2 := lt_new kg1 eg2
  replace kp := G.has kp
  replace kg1 := G.has kg1
  replace HW := HW.gro G
  replace GG := GG.tg G
  clear G eg2
  refine nr ?_; intro U h; simp only [z0, z1] at h; subst h
  refine s_alloc 6 rfl rfl 59 rfl _ zv59 _ rfl ?_
  intro w3 g3 G eg3 kg3
  have bg3 := size_basS GG eg3
  have dpg3 := lt_new kp eg3
  have dg1g3 := lt_new kg1 eg3
  have dg2g3 := lt_new kg2 eg3
  replace kp := G.has kp
  replace kg1 := G.has kg1
  replace kg2 := G.has kg2
  replace HW := HW.gro G
  replace GG := GG.tg G
  clear G eg3
  refine nr ?_; intro U h; simp only [z0, z1] at h; subst h
  refine wpList_nil ?_
  refine then_n ?_
  refine wp_seq ?_
  refine wp_region_exA (A := ?Ax2) 6 [(0, 11), (1, 12), (2, 13), (3, 14), (4, 15), (5, 16)] [.val (.pointer (some ⟨g1, 0, none⟩)), .val (.agg (c29 fi fn)), .val (.pointer (some ⟨p, 0, none⟩)), .val (.pointer (some ⟨p, 0, none⟩)), .val (.pointer (some ⟨p, 20, none⟩)), .val (.agg (c29 pi pn))] follows (by kernel_rfl) rfl ?hAx2 (opsA_cons ?o0x2 (opsA_cons ?o1x2 (opsA_cons ?o2x2 (opsA_cons ?o3x2 (opsA_cons ?o4x2 (opsA_cons ?o5x2 opsA_nil)))))) ?restx2
  case hAx2 =>
    intro ptrs
    simp only [full, foldSlots, filledE, postE, List.foldl_cons, List.foldl_nil, List.getD_cons_zero, List.getD_cons_succ, fill_val, List.set_cons_zero, List.set_cons_succ]
    exact rfl
  case o0x2 => exact fun _ _ hw _ => opE_value (v := .pointer (some ⟨g1, 0, none⟩)) rfl (run_fld 110 _ 0 rfl _ _ rfl _ (by kernel_rfl))
  case o1x2 => exact fun _ _ hw _ => opE_value (v := .agg (c29 fi fn)) rfl (run_lda 29 _ rfl g1 0 2 rfl 110 _ (hw.has kg1) _ Try.underlying29 rfl si29 (Nat.le_of_ble_eq_true rfl) _ (by kernel_rfl))
  case o2x2 => exact fun _ _ _ _ => opE_move (v := .pointer (some ⟨p, 0, none⟩)) _ rfl rfl rfl
  case o3x2 => exact fun _ _ hw _ => opE_value (v := .pointer (some ⟨p, 0, none⟩)) rfl (run_nc _ rfl _ rfl)
  case o4x2 => exact fun _ _ hw _ => opE_value (v := .pointer (some ⟨p, 20, none⟩)) rfl (run_fld 98 _ 4 rfl _ _ rfl _ (by kernel_rfl))
  case o5x2 => exact fun _ _ hw _ => opE_value (v := .agg (c29 pi pn)) rfl (run_lda 29 _ rfl p 20 2 rfl 98 _ (hw.has kp) _ Try.underlying29 rfl si29 (Nat.le_of_ble_eq_true rfl) _ (by kernel_rfl))
  intro ptrs w4 GD hxE
  simp only [List.drop_succ_cons, List.drop_zero]
  replace kp := GD.has kp
  replace kg1 := GD.has kg1
  replace kg2 := GD.has kg2
  replace kg3 := GD.has kg3
  replace HW := HW.gro ((Gro.refl _).drew.trans GD)
  replace GG := GG.drew.tg GD
  clear GD
  refine s_callv 17 rfl rfl _ 55 Try.call55 rfl rfl _ rfl [.agg (c29 fi fn), .agg (c29 pi pn)] rfl (compare_any _ fi fn pi pn) ?_
  intro w5 G
  replace kp := G.has kp
  replace kg1 := G.has kg1
  replace kg2 := G.has kg2
  replace kg3 := G.has kg3
  replace HW := HW.gro G
  replace GG := GG.tg G
  clear G
  refine nr ?_; intro U h; simp only [z0, z1] at h; subst h
  refine s_val 7 rfl rfl (.int .i64 (cmpP fi fn pi pn)) (rfl) ?_
  refine nr ?_; intro U h; simp only [z0, z1] at h; subst h
  refine wpList_nil ?_
  refine then_n ?_
  refine wp_seq ?_
  refine wp_seq ?_
  refine wp_region_opq ?_
  intro OPS hY
  have y2 := hY 2 20 rfl
  clear hY
  refine s_val 18 rfl rfl (.int .i64 (cmpP fi fn pi pn)) (rfl) ?_
  refine nr ?_; intro U h; simp only [z0, z1] at h; subst h
  refine s_val 19 rfl rfl (.bool false) (run_lssT 3 _ _ _ rfl (cmpP fi fn pi pn) 0 rfl rfl false hl _) ?_
  refine nr ?_; intro U h; simp only [z0, z1] at h; subst h
  refine s_val 20 rfl rfl (.bool false) (rfl) ?_
  refine nr ?_; intro U h; simp only [z0, z1] at h; subst h
  refine s_gvalY 21 rfl rfl y2 rfl (.pointer (some ⟨g1, 0, none⟩)) (run_fld 110 _ 0 rfl _ _ rfl _ (by kernel_rfl)) ?_
  refine nr ?_; intro U h; simp only [z0, z1] at h; subst h
  refine s_gvalY 22 rfl rfl y2 rfl (.agg (c29 fi fn)) (run_lda 29 _ rfl g1 0 2 rfl 110 _ kg1 _ Try.underlying29 rfl si29 (Nat.le_of_ble_eq_true rfl) _ (by kernel_rfl)) ?_
  refine nr ?_; intro U h; simp only [z0, z1] at h; subst h
  refine s_gvalY 23 rfl rfl y2 rfl (.agg (c29 0 0)) (run_bd 29 _ rfl [] rfl _ (by kernel_rfl)) ?_
  refine nr ?_; intro U h; simp only [z0, z1] at h; subst h
  refine s_gvalY 24 rfl rfl y2 rfl (.bool true) (run_eqN _ _ _ rfl fi fn 0 0 rfl rfl true (hz) _) ?_
  refine nr ?_; intro U h; simp only [z0, z1] at h; subst h
  refine s_val 25 rfl rfl (.bool true) (rfl) ?_
  refine nr ?_; intro U h; simp only [z0, z1] at h; subst h
  refine wpList_nil ?_
  refine then_n ?_
  refine wp_cond_true rfl ?_
  refine wp_seq ?_
  refine wp_region_lit ?_
  refine s_val 26 rfl rfl (.agg (c59 false false Sl.nil false Sl.nil)) (run_bd 59 _ rfl [] rfl _ (by kernel_rfl)) ?_
  refine nr ?_; intro U h; simp only [z0, z1] at h; subst h
  refine s_store rfl rfl 59 _ _ rfl g3 0 rfl (.agg (c59 false false Sl.nil false Sl.nil)) rfl 59 _ kg3 (c59 false false Sl.nil false Sl.nil) rfl (by kernel_rfl) (Nat.le_of_ble_eq_true rfl) (by kernel_rfl) (c59 false false Sl.nil false Sl.nil) (by kernel_rfl) ?_
  intro w7 St
  replace kp := St.has (by omega) kp
  replace kg1 := St.has (by omega) kg1
  replace kg2 := St.has (by omega) kg2
  replace HW := HW.stT (by decide) (by decide) (by decide) kg3 St
  replace GG := GG.st St (.inl bg3)
  replace kg3 := St.new
  clear St
  refine wpList_nil ?_
  refine then_n ?_
  refine wp_ret ?_
  refine then_r ?_
  refine bodyPost_ret (results_cell_row Try.results44 _ _ g3 59 _ (0, 0) _ rfl kg3 Try.underlying59 rfl (by kernel_rfl)) rfl ?_
  exact ⟨_, (p :: wp :: blk ro), (txb q), rfl, TV.no _, ⟨wp, B, ro, rc, q, ⟨kp, HW⟩, rfl, rfl, rfl⟩, GG.p1, Fresh.refl _ _, Fresh.refl _ _⟩
set_option maxRecDepth 100000 in
set_option maxHeartbeats 4000000 in
theorem greeted_same (w : World) (p wp B : Nat) (id : Nat → Nat) (up op : Bool) (mi mn pi pn : Int) (oth : Nat → Nat) (ro : Option Addr) (rc : Nat) (q : List RV) (k c : Nat) (H : EW w p wp B id up op mi mn pi pn oth ro rc q k c) (fi fn ti tn : Int) (a : Nat → Nat) (ni nn : Int) (hl : decide (cmpP fi fn pi pn < 0) = false) (hz : (decide (fi = 0) && decide (fn = 0)) = false) (hg : decide (0 < cmpP fi fn pi pn) = false) (hs : (decide (ti = mi) && decide (tn = mn)) = false) : Calls Try.prog 44 #[.pointer (some ⟨p, 0, none⟩), .agg (c110 fi fn ti tn a), .agg (c29 ni nn)] w (HearP w p id (p :: wp :: blk ro) (txb q) (⟨up, op, mi, mn, pi, pn, oth, k, (q.map (·.l)), c⟩, ⟨false, false, [], false, [⟨1, id, mi, mn, pi, pn, 0, []⟩]⟩)) := by
  refine s_enter Try.func44 rfl Try.ntmps44 [.pointer (some ⟨p, 0, none⟩), .agg (c110 fi fn ti tn a), .agg (c29 ni nn)] [.pointer (some ⟨p, 0, none⟩), .agg (c110 fi fn ti tn a), .agg (c29 ni nn), undef, undef, undef, undef, undef, undef, undef, undef, undef, undef, undef, undef, undef, undef, undef, undef, undef, undef, undef, undef, undef, undef, undef, undef, undef, undef, undef, undef, undef, undef, undef, undef, undef, undef, undef, undef, undef, undef, undef, undef, undef, undef, undef, undef, undef, undef, undef, undef, undef, undef, undef, undef, undef, undef, undef, undef, undef, undef, undef, undef, undef, undef, undef, undef, undef, undef, undef, undef, undef, undef, undef, undef, undef, undef, undef, undef, undef, undef, undef, undef, undef, undef, undef] rfl ?_
  have GG := GroS.refl [p] w
  have kp := H.box
  have HW := H.win
  have hpl := lt_of_heap kp
  refine wp_seq ?_
  refine wp_region_lit ?_
  refine s_box 4 rfl rfl 110 _ rfl _ rfl (c110 fi fn ti tn a) rfl ?_
  intro w1 g1 G eg1 kg1
  have bg1 := size_basS GG eg1
  have dpg1 := lt_new kp eg1
  replace kp := G.has kp
  replace HW := HW.gro G
  replace GG := GG.tg G
  clear G eg1
  refine nr ?_; intro U h; simp only [z0, z1] at h; subst h
  refine s_box 5 rfl rfl 29 _ rfl _ rfl (c29 ni nn) rfl ?_
  intro w2 g2 G eg2 kg2
  have bg2 := size_basS GG eg2
  have dpg2 := lt_new kp eg2
  have dg1g2 := lt_new kg1 eg2
  replace kp := G.has kp
  replace kg1 := G.has kg1
  replace HW := HW.gro G
  replace GG := GG.tg G
  clear G eg2
  refine nr ?_; intro U h; simp only [z0, z1] at h; subst h
  refine s_alloc 6 rfl rfl 59 rfl _ zv59 _ rfl ?_
  intro w3 g3 G eg3 kg3
  have bg3 := size_basS GG eg3
  have dpg3 := lt_new kp eg3
  have dg1g3 := lt_new kg1 eg3
  have dg2g3 := lt_new kg2 eg3
  replace kp := G.has kp
  replace kg1 := G.has kg1
  replace kg2 := G.has kg2
  replace HW := HW.gro G
  replace GG := GG.tg G
  clear G eg3
  refine nr ?_; intro U h; simp only [z0, z1] at h; subst h
  refine wpList_nil ?_
  refine then_n ?_
  refine wp_seq ?_
  refine wp_region_exA (A := ?Ax3) 6 [(0, 11), (1, 12), (2, 13), (3, 14), (4, 15), (5, 16)] [.val (.pointer (some ⟨g1, 0, none⟩)), .val (.agg (c29 fi fn)), .val (.pointer (some ⟨p, 0, none⟩)), .val (.pointer (some ⟨p, 0, none⟩)), .val (.pointer (some ⟨p, 20, none⟩)), .val (.agg (c29 pi pn))] follows (by kernel_rfl) rfl ?hAx3 (opsA_cons ?o0x3 (opsA_cons ?o1x3 (opsA_cons ?o2x3 (opsA_cons ?o3x3 (opsA_cons ?o4x3 (opsA_cons ?o5x3 opsA_nil)))))) ?restx3
  case hAx3 =>
    intro ptrs
    simp only [full, foldSlots, filledE, postE, List.foldl_cons, List.foldl_nil, List.getD_cons_zero, List.getD_cons_succ, fill_val, List.set_cons_zero, List.set_cons_succ]
    exact rfl
  case o0x3 => exact fun _ _ hw _ => opE_value (v := .pointer (some ⟨g1, 0, none⟩)) rfl (run_fld 110 _ 0 rfl _ _ rfl _ (by kernel_rfl))
  case o1x3 => exact fun _ _ hw _ => opE_value (v := .agg (c29 fi fn)) rfl (run_lda 29 _ rfl g1 0 2 rfl 110 _ (hw.has kg1) _ Try.underlying29 rfl si29 (Nat.le_of_ble_eq_true rfl) _ (by kernel_rfl))
  case o2x3 => exact fun _ _ _ _ => opE_move (v := .pointer (some ⟨p, 0, none⟩)) _ rfl rfl rfl
  case o3x3 => exact fun _ _ hw _ => opE_value (v := .pointer (some ⟨p, 0, none⟩)) rfl (run_nc _ rfl _ rfl)
  case o4x3 => exact fun _ _ hw _ => opE_value (v := .pointer (some ⟨p, 20, none⟩)) rfl (run_fld 98 _ 4 rfl _ _ rfl _ (by kernel_rfl))
  case o5x3 => exact fun _ _ hw _ => opE_value (v := .agg (c29 pi pn)) rfl (run_lda 29 _ rfl p 20 2 rfl 98 _ (hw.has kp) _ Try.underlying29 rfl si29 (Nat.le_of_ble_eq_true rfl) _ (by kernel_rfl))
  intro ptrs w4 GD hxE
  simp only [List.drop_succ_cons, List.drop_zero]
  replace kp := GD.has kp
  replace kg1 := GD.has kg1
  replace kg2 := GD.has kg2
  replace kg3 := GD.has kg3
  replace HW := HW.gro ((Gro.refl _).drew.trans GD)
  replace GG := GG.drew.tg GD
  clear GD
  refine s_callv 17 rfl rfl _ 55 Try.call55 rfl rfl _ rfl [.agg (c29 fi fn), .agg (c29 pi pn)] rfl (compare_any _ fi fn pi pn) ?_
  intro w5 G
  replace kp := G.has kp
  replace kg1 := G.has kg1
  replace kg2 := G.has kg2
  replace kg3 := G.has kg3
  replace HW := HW.gro G
  replace GG := GG.tg G
  clear G
  refine nr ?_; intro U h; simp only [z0, z1] at h; subst h
  refine s_val 7 rfl rfl (.int .i64 (cmpP fi fn pi pn)) (rfl) ?_
  refine nr ?_; intro U h; simp only [z0, z1] at h; subst h
  refine wpList_nil ?_
  refine then_n ?_
  refine wp_seq ?_
  refine wp_seq ?_
  refine wp_region_opq ?_
  intro OPS hY
  have y2 := hY 2 20 rfl
  clear hY
  refine s_val 18 rfl rfl (.int .i64 (cmpP fi fn pi pn)) (rfl) ?_
  refine nr ?_; intro U h; simp only [z0, z1] at h; subst h
  refine s_val 19 rfl rfl (.bool false) (run_lssT 3 _ _ _ rfl (cmpP fi fn pi pn) 0 rfl rfl false hl _) ?_
  refine nr ?_; intro U h; simp only [z0, z1] at h; subst h
  refine s_val 20 rfl rfl (.bool false) (rfl) ?_
  refine nr ?_; intro U h; simp only [z0, z1] at h; subst h
  refine s_gvalY 21 rfl rfl y2 rfl (.pointer (some ⟨g1, 0, none⟩)) (run_fld 110 _ 0 rfl _ _ rfl _ (by kernel_rfl)) ?_
  refine nr ?_; intro U h; simp only [z0, z1] at h; subst h
  refine s_gvalY 22 rfl rfl y2 rfl (.agg (c29 fi fn)) (run_lda 29 _ rfl g1 0 2 rfl 110 _ kg1 _ Try.underlying29 rfl si29 (Nat.le_of_ble_eq_true rfl) _ (by kernel_rfl)) ?_
  refine nr ?_; intro U h; simp only [z0, z1] at h; subst h
  refine s_gvalY 23 rfl rfl y2 rfl (.agg (c29 0 0)) (run_bd 29 _ rfl [] rfl _ (by kernel_rfl)) ?_
  refine nr ?_; intro U h; simp only [z0, z1] at h; subst h
  refine s_gvalY 24 rfl rfl y2 rfl (.bool false) (run_eqN _ _ _ rfl fi fn 0 0 rfl rfl false (hz) _) ?_
  refine nr ?_; intro U h; simp only [z0, z1] at h; subst h
  refine s_val 25 rfl rfl (.bool false) (rfl) ?_
  refine nr ?_; intro U h; simp only [z0, z1] at h; subst h
  refine wpList_nil ?_
  refine then_n ?_
  refine wp_cond_false rfl ?_
  refine wp_skip ?_
  refine then_n ?_
  refine wp_seq ?_
  refine wp_region_opq ?_
  intro OPS hY
  have y2 := hY 2 29 rfl
  clear hY
  refine s_val 27 rfl rfl (.int .i64 (cmpP fi fn pi pn)) (rfl) ?_
  refine nr ?_; intro U h; simp only [z0, z1] at h; subst h
  refine s_val 28 rfl rfl (.bool false) (run_gtrT 3 _ _ _ rfl (cmpP fi fn pi pn) 0 rfl rfl false hg _) ?_
  refine nr ?_; intro U h; simp only [z0, z1] at h; subst h
  refine s_val 29 rfl rfl (.bool false) (rfl) ?_
  refine nr ?_; intro U h; simp only [z0, z1] at h; subst h
  refine s_skipY 30 rfl rfl y2 rfl ?_
  refine nr ?_; intro U h; simp only [z0, z1] at h; subst h
  refine s_skipY 31 rfl rfl y2 rfl ?_
  refine nr ?_; intro U h; simp only [z0, z1] at h; subst h
  refine s_skipY 32 rfl rfl y2 rfl ?_
  refine nr ?_; intro U h; simp only [z0, z1] at h; subst h
  refine s_skipY 33 rfl rfl y2 rfl ?_
  refine nr ?_; intro U h; simp only [z0, z1] at h; subst h
  refine s_val 34 rfl rfl (.bool false) (rfl) ?_
  refine nr ?_; intro U h; simp only [z0, z1] at h; subst h
  refine s_val 8 rfl rfl (.bool false) (rfl) ?_
  refine nr ?_; intro U h; simp only [z0, z1] at h; subst h
  refine wpList_nil ?_
  refine then_n ?_
  refine wp_seq ?_
  refine wp_seq ?_
  refine wp_region_lit ?_
  refine s_val 35 rfl rfl (.bool false) (rfl) ?_
  refine nr ?_; intro U h; simp only [z0, z1] at h; subst h
  refine wpList_nil ?_
  refine then_n ?_
  refine wp_cond_false rfl ?_
  refine wp_skip ?_
  refine then_n ?_
  refine wp_seq ?_
  refine wp_seq ?_
  refine wp_region_lit ?_
  refine s_val 40 rfl rfl (.int .i64 (cmpP fi fn pi pn)) (rfl) ?_
  refine nr ?_; intro U h; simp only [z0, z1] at h; subst h
  refine s_val 41 rfl rfl (.bool false) (run_gtrT 3 _ _ _ rfl (cmpP fi fn pi pn) 0 rfl rfl false hg _) ?_
  refine nr ?_; intro U h; simp only [z0, z1] at h; subst h
  refine wpList_nil ?_
  refine then_n ?_
  refine wp_cond_false rfl ?_
  refine wp_skip ?_
  refine then_n ?_
  refine wp_seq ?_
  refine wp_region_exA (A := ?Ax4) 6 [(0, 59), (1, 60), (2, 61), (3, 62), (4, 63), (5, 64)] [.val (.pointer (some ⟨g1, 2, none⟩)), .val (.agg (c29 ti tn)), .val (.pointer (some ⟨p, 0, none⟩)), .val (.pointer (some ⟨p, 0, none⟩)), .val (.pointer (some ⟨p, 18, none⟩)), .val (.agg (c29 mi mn))] follows (by kernel_rfl) rfl ?hAx4 (opsA_cons ?o0x4 (opsA_cons ?o1x4 (opsA_cons ?o2x4 (opsA_cons ?o3x4 (opsA_cons ?o4x4 (opsA_cons ?o5x4 opsA_nil)))))) ?restx4
  case hAx4 =>
    intro ptrs
    simp only [full, foldSlots, filledE, postE, List.foldl_cons, List.foldl_nil, List.getD_cons_zero, List.getD_cons_succ, fill_val, List.set_cons_zero, List.set_cons_succ]
    exact rfl
  case o0x4 => exact fun _ _ hw _ => opE_value (v := .pointer (some ⟨g1, 2, none⟩)) rfl (run_fld 110 _ 1 rfl _ _ rfl _ (by kernel_rfl))
  case o1x4 => exact fun _ _ hw _ => opE_value (v := .agg (c29 ti tn)) rfl (run_lda 29 _ rfl g1 2 2 rfl 110 _ (hw.has kg1) _ Try.underlying29 rfl si29 (Nat.le_of_ble_eq_true rfl) _ (by kernel_rfl))
  case o2x4 => exact fun _ _ _ _ => opE_move (v := .pointer (some ⟨p, 0, none⟩)) _ rfl rfl rfl
  case o3x4 => exact fun _ _ hw _ => opE_value (v := .pointer (some ⟨p, 0, none⟩)) rfl (run_nc _ rfl _ rfl)
  case o4x4 => exact fun _ _ hw _ => opE_value (v := .pointer (some ⟨p, 18, none⟩)) rfl (run_fld 98 _ 3 rfl _ _ rfl _ (by kernel_rfl))
  case o5x4 => exact fun _ _ hw _ => opE_value (v := .agg (c29 mi mn)) rfl (run_lda 29 _ rfl p 18 2 rfl 98 _ (hw.has kp) _ Try.underlying29 rfl si29 (Nat.le_of_ble_eq_true rfl) _ (by kernel_rfl))
  intro ptrs w6 GD hxE
  simp only [List.drop_succ_cons, List.drop_zero]
  replace kp := GD.has kp
  replace kg1 := GD.has kg1
  replace kg2 := GD.has kg2
  replace kg3 := GD.has kg3
  replace HW := HW.gro ((Gro.refl _).drew.trans GD)
  replace GG := GG.drew.tg GD
  clear GD
  refine s_val 65 rfl rfl (.bool false) (run_eqN _ _ _ rfl ti tn mi mn rfl rfl false (hs) _) ?_
  refine nr ?_; intro U h; simp only [z0, z1] at h; subst h
  refine s_val 9 rfl rfl (.bool false) (rfl) ?_
  refine nr ?_; intro U h; simp only [z0, z1] at h; subst h
  refine wpList_nil ?_
  refine then_n ?_
  refine wp_seq ?_
  refine wp_region_opq ?_
  intro OPS hY
  have y1 := hY 1 67 rfl
  clear hY
  refine s_val 66 rfl rfl (.bool false) (rfl) ?_
  refine nr ?_; intro U h; simp only [z0, z1] at h; subst h
  refine s_val 67 rfl rfl (.bool false) (rfl) ?_
  refine nr ?_; intro U h; simp only [z0, z1] at h; subst h
  refine s_skipY 68 rfl rfl y1 rfl ?_
  refine nr ?_; intro U h; simp only [z0, z1] at h; subst h
  refine s_skipY 69 rfl rfl y1 rfl ?_
  refine nr ?_; intro U h; simp only [z0, z1] at h; subst h
  refine s_val 70 rfl rfl (.bool false) (rfl) ?_
  refine nr ?_; intro U h; simp only [z0, z1] at h; subst h
  refine s_val 10 rfl rfl (.bool false) (rfl) ?_
  refine nr ?_; intro U h; simp only [z0, z1] at h; subst h
  refine wpList_nil ?_
  refine then_n ?_
  refine wp_seq ?_
  refine wp_seq ?_
  refine wp_region_opq ?_
  intro OPS hY
  have y1 := hY 1 72 rfl
  clear hY
  refine s_val 71 rfl rfl (.bool false) (rfl) ?_
  refine nr ?_; intro U h; simp only [z0, z1] at h; subst h
  refine s_val 72 rfl rfl (.bool false) (rfl) ?_
  refine nr ?_; intro U h; simp only [z0, z1] at h; subst h
  refine s_skipY 73 rfl rfl y1 rfl ?_
  refine nr ?_; intro U h; simp only [z0, z1] at h; subst h
  refine s_skipY 74 rfl rfl y1 rfl ?_
  refine nr ?_; intro U h; simp only [z0, z1] at h; subst h
  refine s_val 75 rfl rfl (.bool false) (rfl) ?_
  refine nr ?_; intro U h; simp only [z0, z1] at h; subst h
  refine wpList_nil ?_
  refine then_n ?_
  refine wp_cond_false rfl ?_
  refine wp_skip ?_
  refine then_n ?_
  refine wp_seq ?_
  refine wp_region_lit ?_
  refine s_val 80 rfl rfl (.bool false) (rfl) ?_
  refine nr ?_; intro U h; simp only [z0, z1] at h; subst h
  refine s_val 81 rfl rfl (.bool false) (rfl) ?_
  refine nr ?_; intro U h; simp only [z0, z1] at h; subst h
  refine s_val 82 rfl rfl (.pointer (some ⟨p, 0, none⟩)) (rfl) ?_
  refine nr ?_; intro U h; simp only [z0, z1] at h; subst h
  refine s_callx 83 rfl rfl _ 35 Try.call35 rfl rfl _ rfl [.pointer (some ⟨p, 0, none⟩)] rfl (greeting_any _ p wp B id up op mi mn pi pn oth ro rc q k c ⟨kp, HW⟩) (fun _ _ ⟨_, _, _, _, _, he, _⟩ => ⟨_, he⟩) ?_
  rintro v w7 ⟨s1g, s2g, s3g, aog, capg, he, HVg, G⟩
  cases he
  replace kp := G.has kp
  replace kg1 := G.has kg1
  replace kg2 := G.has kg2
  replace kg3 := G.has kg3
  replace HW := HW.gro G
  replace GG := GG.tg G
  clear G
  refine nr ?_; intro U h; simp only [z0, z1] at h; subst h
  refine s_bsl 84 rfl rfl 50 1 _ rfl [(0, .agg (c46 1 zF 0 false id zF 0 mi mn pi pn s1g s2g zF 0 zF s3g 0 0 ⟨aog, 0, capg⟩))] rfl (c46 1 zF 0 false id zF 0 mi mn pi pn s1g s2g zF 0 zF s3g 0 0 ⟨aog, 0, capg⟩) 46 (by kernel_rfl) ?_
  intro w8 g4 G eg4 kg4
  have bg4 := size_basS GG eg4
  have dpg4 := lt_new kp eg4
  have dg1g4 := lt_new kg1 eg4
  have dg2g4 := lt_new kg2 eg4
  have dg3g4 := lt_new kg3 eg4
  replace kp := G.has kp
  replace kg1 := G.has kg1
  replace kg2 := G.has kg2
  replace kg3 := G.has kg3
  replace HW := HW.gro G
  replace HVg := HVg.gro G
  replace GG := GG.tg G
  clear G eg4
  refine nr ?_; intro U h; simp only [z0, z1] at h; subst h
  refine s_val 85 rfl rfl (.agg (c59 false false Sl.nil false ⟨some ⟨g4, 0, none⟩, 1, 1⟩)) (run_bd 59 _ rfl [(0, .bool false), (1, .bool false), (4, .slice (some ⟨g4, 0, none⟩) 1 1)] rfl _ (by kernel_rfl)) ?_
  refine nr ?_; intro U h; simp only [z0, z1] at h; subst h
  refine s_store rfl rfl 59 _ _ rfl g3 0 rfl (.agg (c59 false false Sl.nil false ⟨some ⟨g4, 0, none⟩, 1, 1⟩)) rfl 59 _ kg3 (c59 false false Sl.nil false ⟨some ⟨g4, 0, none⟩, 1, 1⟩) rfl (by kernel_rfl) (Nat.le_of_ble_eq_true rfl) (by kernel_rfl) (c59 false false Sl.nil false ⟨some ⟨g4, 0, none⟩, 1, 1⟩) (by kernel_rfl) ?_
  intro w10 St
  replace kp := St.has (by omega) kp
  replace kg1 := St.has (by omega) kg1
  replace kg2 := St.has (by omega) kg2
  replace kg4 := St.has (by omega) kg4
  replace HW := HW.stT (by decide) (by decide) (by decide) kg3 St
  replace HVg := HVg.no5 ((GroS.refl [g3] _).st St (.inr (by simp))) (no5_one kg3 (by decide))
  replace GG := GG.st St (.inl bg3)
  replace kg3 := St.new
  clear St
  refine wpList_nil ?_
  refine then_n ?_
  refine wp_ret ?_
  refine bodyPost_ret (results_cell_row Try.results44 _ _ g3 59 _ (0, 0) _ rfl kg3 Try.underlying59 rfl (by kernel_rfl)) rfl ?_
  exact ⟨_, (p :: wp :: blk ro), (txb q), rfl, TV.one (f := pfr ⟨1, id, mi, mn, pi, pn, 0, []⟩ s1g s2g s3g ⟨aog, 0, capg⟩) kg4 HVg, ⟨wp, B, ro, rc, q, ⟨kp, HW⟩, rfl, rfl, rfl⟩, GG.p1, Fresh.refl _ _, Fresh.refl _ _⟩
set_option maxRecDepth 100000 in
set_option maxHeartbeats 4000000 in
theorem greeted_ack (w : World) (p wp B : Nat) (id : Nat → Nat) (up : Bool) (mi mn pi pn : Int) (oth : Nat → Nat) (ro : Option Addr) (rc : Nat) (q : List RV) (k c : Nat) (H : EW w p wp B id up true mi mn pi pn oth ro rc q k c) (fi fn ti tn : Int) (a : Nat → Nat) (ni nn : Int) (hl : decide (cmpP fi fn pi pn < 0) = false) (hz : (decide (fi = 0) && decide (fn = 0)) = false) (hg : decide (0 < cmpP fi fn pi pn) = false) (hs : (decide (ti = mi) && decide (tn = mn)) = true) (hk : k + q.length ≤ 100000) (hc : c ≤ 100000) : Calls Try.prog 44 #[.pointer (some ⟨p, 0, none⟩), .agg (c110 fi fn ti tn a), .agg (c29 ni nn)] w (HearP w p id (p :: wp :: blk ro) (txb q) (⟨up, true, mi, mn, pi, pn, oth, k, (q.map (·.l)), c⟩, ⟨false, false, [], false, [⟨3, zF, mi, mn, pi, pn, ((c : Nat) : Int), []⟩]⟩)) := by
  refine s_enter Try.func44 rfl Try.ntmps44 [.pointer (some ⟨p, 0, none⟩), .agg (c110 fi fn ti tn a), .agg (c29 ni nn)] [.pointer (some ⟨p, 0, none⟩), .agg (c110 fi fn ti tn a), .agg (c29 ni nn), undef, undef, undef, undef, undef, undef, undef, undef, undef, undef, undef, undef, undef, undef, undef, undef, undef, undef, undef, undef, undef, undef, undef, undef, undef, undef, undef, undef, undef, undef, undef, undef, undef, undef, undef, undef, undef, undef, undef, undef, undef, undef, undef, undef, undef, undef, undef, undef, undef, undef, undef, undef, undef, undef, undef, undef, undef, undef, undef, undef, undef, undef, undef, undef, undef, undef, undef, undef, undef, undef, undef, undef, undef, undef, undef, undef, undef, undef, undef, undef, undef, undef, undef] rfl ?_
  have GG := GroS.refl [p] w
  have kp := H.box
  have HW := H.win
  have hpl := lt_of_heap kp
  refine wp_seq ?_
  refine wp_region_lit ?_
  refine s_box 4 rfl rfl 110 _ rfl _ rfl (c110 fi fn ti tn a) rfl ?_
  intro w1 g1 G eg1 kg1
  have bg1 := size_basS GG eg1
  have dpg1 := lt_new kp eg1
  replace kp := G.has kp
  replace HW := HW.gro G
  replace GG := GG.tg G
  clear G eg1
  refine nr ?_; intro U h; simp only [z0, z1] at h; subst h
  refine s_box 5 rfl rfl 29 _ rfl _ rfl (c29 ni nn) rfl ?_
  intro w2 g2 G eg2 kg2
  have bg2 := size_basS GG eg2
  have dpg2 := lt_new kp eg2
  have dg1g2 := lt_new kg1 eg2
  replace kp := G.has kp
  replace kg1 := G.has kg1
  replace HW := HW.gro G
  replace GG := GG.tg G
  clear G eg2
  refine nr ?_; intro U h; simp only [z0, z1] at h; subst h
  refine s_alloc 6 rfl rfl 59 rfl _ zv59 _ rfl ?_
  intro w3 g3 G eg3 kg3
  have bg3 := size_basS GG eg3
  have dpg3 := lt_new kp eg3
  have dg1g3 := lt_new kg1 eg3
  have dg2g3 := lt_new kg2 eg3
  replace kp := G.has kp
  replace kg1 := G.has kg1
  replace kg2 := G.has kg2
  replace HW := HW.gro G
  replace GG := GG.tg G
  clear G eg3
  refine nr ?_; intro U h; simp only [z0, z1] at h; subst h
  refine wpList_nil ?_
  refine then_n ?_
  refine wp_seq ?_
  refine wp_region_exA (A := ?Ax5) 6 [(0, 11), (1, 12), (2, 13), (3, 14), (4, 15), (5, 16)] [.val (.pointer (some ⟨g1, 0, none⟩)), .val (.agg (c29 fi fn)), .val (.pointer (some ⟨p, 0, none⟩)), .val (.pointer (some ⟨p, 0, none⟩)), .val (.pointer (some ⟨p, 20, none⟩)), .val (.agg (c29 pi pn))] follows (by kernel_rfl) rfl ?hAx5 (opsA_cons ?o0x5 (opsA_cons ?o1x5 (opsA_cons ?o2x5 (opsA_cons ?o3x5 (opsA_cons ?o4x5 (opsA_cons ?o5x5 opsA_nil)))))) ?restx5
  case hAx5 =>
    intro ptrs
    simp only [full, foldSlots, filledE, postE, List.foldl_cons, List.foldl_nil, List.getD_cons_zero, List.getD_cons_succ, fill_val, List.set_cons_zero, List.set_cons_succ]
    exact rfl
  case o0x5 => exact fun _ _ hw _ => opE_value (v := .pointer (some ⟨g1, 0, none⟩)) rfl (run_fld 110 _ 0 rfl _ _ rfl _ (by kernel_rfl))
  case o1x5 => exact fun _ _ hw _ => opE_value (v := .agg (c29 fi fn)) rfl (run_lda 29 _ rfl g1 0 2 rfl 110 _ (hw.has kg1) _ Try.underlying29 rfl si29 (Nat.le_of_ble_eq_true rfl) _ (by kernel_rfl))
  case o2x5 => exact fun _ _ _ _ => opE_move (v := .pointer (some ⟨p, 0, none⟩)) _ rfl rfl rfl
  case o3x5 => exact fun _ _ hw _ => opE_value (v := .pointer (some ⟨p, 0, none⟩)) rfl (run_nc _ rfl _ rfl)
  case o4x5 => exact fun _ _ hw _ => opE_value (v := .pointer (some ⟨p, 20, none⟩)) rfl (run_fld 98 _ 4 rfl _ _ rfl _ (by kernel_rfl))
  case o5x5 => exact fun _ _ hw _ => opE_value (v := .agg (c29 pi pn)) rfl (run_lda 29 _ rfl p 20 2 rfl 98 _ (hw.has kp) _ Try.underlying29 rfl si29 (Nat.le_of_ble_eq_true rfl) _ (by kernel_rfl))
  intro ptrs w4 GD hxE
  simp only [List.drop_succ_cons, List.drop_zero]
  replace kp := GD.has kp
  replace kg1 := GD.has kg1
  replace kg2 := GD.has kg2
  replace kg3 := GD.has kg3
  replace HW := HW.gro ((Gro.refl _).drew.trans GD)
  replace GG := GG.drew.tg GD
  clear GD
  refine s_callv 17 rfl rfl _ 55 Try.call55 rfl rfl _ rfl [.agg (c29 fi fn), .agg (c29 pi pn)] rfl (compare_any _ fi fn pi pn) ?_
  intro w5 G
  replace kp := G.has kp
  replace kg1 := G.has kg1
  replace kg2 := G.has kg2
  replace kg3 := G.has kg3
  replace HW := HW.gro G
  replace GG := GG.tg G
  clear G
  refine nr ?_; intro U h; simp only [z0, z1] at h; subst h
  refine s_val 7 rfl rfl (.int .i64 (cmpP fi fn pi pn)) (rfl) ?_
  refine nr ?_; intro U h; simp only [z0, z1] at h; subst h
  refine wpList_nil ?_
  refine then_n ?_
  refine wp_seq ?_
  refine wp_seq ?_
  refine wp_region_opq ?_
  intro OPS hY
  have y2 := hY 2 20 rfl
  clear hY
  refine s_val 18 rfl rfl (.int .i64 (cmpP fi fn pi pn)) (rfl) ?_
  refine nr ?_; intro U h; simp only [z0, z1] at h; subst h
  refine s_val 19 rfl rfl (.bool false) (run_lssT 3 _ _ _ rfl (cmpP fi fn pi pn) 0 rfl rfl false hl _) ?_
  refine nr ?_; intro U h; simp only [z0, z1] at h; subst h
  refine s_val 20 rfl rfl (.bool false) (rfl) ?_
  refine nr ?_; intro U h; simp only [z0, z1] at h; subst h
  refine s_gvalY 21 rfl rfl y2 rfl (.pointer (some ⟨g1, 0, none⟩)) (run_fld 110 _ 0 rfl _ _ rfl _ (by kernel_rfl)) ?_
  refine nr ?_; intro U h; simp only [z0, z1] at h; subst h
  refine s_gvalY 22 rfl rfl y2 rfl (.agg (c29 fi fn)) (run_lda 29 _ rfl g1 0 2 rfl 110 _ kg1 _ Try.underlying29 rfl si29 (Nat.le_of_ble_eq_true rfl) _ (by kernel_rfl)) ?_
  refine nr ?_; intro U h; simp only [z0, z1] at h; subst h
  refine s_gvalY 23 rfl rfl y2 rfl (.agg (c29 0 0)) (run_bd 29 _ rfl [] rfl _ (by kernel_rfl)) ?_
  refine nr ?_; intro U h; simp only [z0, z1] at h; subst h
  refine s_gvalY 24 rfl rfl y2 rfl (.bool false) (run_eqN _ _ _ rfl fi fn 0 0 rfl rfl false (hz) _) ?_
  refine nr ?_; intro U h; simp only [z0, z1] at h; subst h
  refine s_val 25 rfl rfl (.bool false) (rfl) ?_
  refine nr ?_; intro U h; simp only [z0, z1] at h; subst h
  refine wpList_nil ?_
  refine then_n ?_
  refine wp_cond_false rfl ?_
  refine wp_skip ?_
  refine then_n ?_
  refine wp_seq ?_
  refine wp_region_opq ?_
  intro OPS hY
  have y2 := hY 2 29 rfl
  clear hY
  refine s_val 27 rfl rfl (.int .i64 (cmpP fi fn pi pn)) (rfl) ?_
  refine nr ?_; intro U h; simp only [z0, z1] at h; subst h
  refine s_val 28 rfl rfl (.bool false) (run_gtrT 3 _ _ _ rfl (cmpP fi fn pi pn) 0 rfl rfl false hg _) ?_
  refine nr ?_; intro U h; simp only [z0, z1] at h; subst h
  refine s_val 29 rfl rfl (.bool false) (rfl) ?_
  refine nr ?_; intro U h; simp only [z0, z1] at h; subst h
  refine s_skipY 30 rfl rfl y2 rfl ?_
  refine nr ?_; intro U h; simp only [z0, z1] at h; subst h
  refine s_skipY 31 rfl rfl y2 rfl ?_
  refine nr ?_; intro U h; simp only [z0, z1] at h; subst h
  refine s_skipY 32 rfl rfl y2 rfl ?_
  refine nr ?_; intro U h; simp only [z0, z1] at h; subst h
  refine s_skipY 33 rfl rfl y2 rfl ?_
  refine nr ?_; intro U h; simp only [z0, z1] at h; subst h
  refine s_val 34 rfl rfl (.bool false) (rfl) ?_
  refine nr ?_; intro U h; simp only [z0, z1] at h; subst h
  refine s_val 8 rfl rfl (.bool false) (rfl) ?_
  refine nr ?_; intro U h; simp only [z0, z1] at h; subst h
  refine wpList_nil ?_
  refine then_n ?_
  refine wp_seq ?_
  refine wp_seq ?_
  refine wp_region_lit ?_
  refine s_val 35 rfl rfl (.bool false) (rfl) ?_
  refine nr ?_; intro U h; simp only [z0, z1] at h; subst h
  refine wpList_nil ?_
  refine then_n ?_
  refine wp_cond_false rfl ?_
  refine wp_skip ?_
  refine then_n ?_
  refine wp_seq ?_
  refine wp_seq ?_
  refine wp_region_lit ?_
  refine s_val 40 rfl rfl (.int .i64 (cmpP fi fn pi pn)) (rfl) ?_
  refine nr ?_; intro U h; simp only [z0, z1] at h; subst h
  refine s_val 41 rfl rfl (.bool false) (run_gtrT 3 _ _ _ rfl (cmpP fi fn pi pn) 0 rfl rfl false hg _) ?_
  refine nr ?_; intro U h; simp only [z0, z1] at h; subst h
  refine wpList_nil ?_
  refine then_n ?_
  refine wp_cond_false rfl ?_
  refine wp_skip ?_
  refine then_n ?_
  refine wp_seq ?_
  refine wp_region_exA (A := ?Ax6) 6 [(0, 59), (1, 60), (2, 61), (3, 62), (4, 63), (5, 64)] [.val (.pointer (some ⟨g1, 2, none⟩)), .val (.agg (c29 ti tn)), .val (.pointer (some ⟨p, 0, none⟩)), .val (.pointer (some ⟨p, 0, none⟩)), .val (.pointer (some ⟨p, 18, none⟩)), .val (.agg (c29 mi mn))] follows (by kernel_rfl) rfl ?hAx6 (opsA_cons ?o0x6 (opsA_cons ?o1x6 (opsA_cons ?o2x6 (opsA_cons ?o3x6 (opsA_cons ?o4x6 (opsA_cons ?o5x6 opsA_nil)))))) ?restx6
  case hAx6 =>
    intro ptrs
    simp only [full, foldSlots, filledE, postE, List.foldl_cons, List.foldl_nil, List.getD_cons_zero, List.getD_cons_succ, fill_val, List.set_cons_zero, List.set_cons_succ]
    exact rfl
  case o0x6 => exact fun _ _ hw _ => opE_value (v := .pointer (some ⟨g1, 2, none⟩)) rfl (run_fld 110 _ 1 rfl _ _ rfl _ (by kernel_rfl))
  case o1x6 => exact fun _ _ hw _ => opE_value (v := .agg (c29 ti tn)) rfl (run_lda 29 _ rfl g1 2 2 rfl 110 _ (hw.has kg1) _ Try.underlying29 rfl si29 (Nat.le_of_ble_eq_true rfl) _ (by kernel_rfl))
  case o2x6 => exact fun _ _ _ _ => opE_move (v := .pointer (some ⟨p, 0, none⟩)) _ rfl rfl rfl
  case o3x6 => exact fun _ _ hw _ => opE_value (v := .pointer (some ⟨p, 0, none⟩)) rfl (run_nc _ rfl _ rfl)
  case o4x6 => exact fun _ _ hw _ => opE_value (v := .pointer (some ⟨p, 18, none⟩)) rfl (run_fld 98 _ 3 rfl _ _ rfl _ (by kernel_rfl))
  case o5x6 => exact fun _ _ hw _ => opE_value (v := .agg (c29 mi mn)) rfl (run_lda 29 _ rfl p 18 2 rfl 98 _ (hw.has kp) _ Try.underlying29 rfl si29 (Nat.le_of_ble_eq_true rfl) _ (by kernel_rfl))
  intro ptrs w6 GD hxE
  simp only [List.drop_succ_cons, List.drop_zero]
  replace kp := GD.has kp
  replace kg1 := GD.has kg1
  replace kg2 := GD.has kg2
  replace kg3 := GD.has kg3
  replace HW := HW.gro ((Gro.refl _).drew.trans GD)
  replace GG := GG.drew.tg GD
  clear GD
  refine s_val 65 rfl rfl (.bool true) (run_eqN _ _ _ rfl ti tn mi mn rfl rfl true (hs) _) ?_
  refine nr ?_; intro U h; simp only [z0, z1] at h; subst h
  refine s_val 9 rfl rfl (.bool true) (rfl) ?_
  refine nr ?_; intro U h; simp only [z0, z1] at h; subst h
  refine wpList_nil ?_
  refine then_n ?_
  refine wp_seq ?_
  refine wp_region_opq ?_
  intro OPS hY
  have y1 := hY 1 67 rfl
  clear hY
  refine s_val 66 rfl rfl (.bool true) (rfl) ?_
  refine nr ?_; intro U h; simp only [z0, z1] at h; subst h
  refine s_val 67 rfl rfl (.bool true) (rfl) ?_
  refine nr ?_; intro U h; simp only [z0, z1] at h; subst h
  refine s_gvalY 68 rfl rfl y1 rfl (.pointer (some ⟨p, 0, none⟩)) (rfl) ?_
  refine nr ?_; intro U h; simp only [z0, z1] at h; subst h
  refine s_gcallxY 69 rfl rfl y1 rfl _ 56 Try.call56 rfl rfl _ rfl [.pointer (some ⟨p, 0, none⟩)] rfl (opens_any _ p wp B id up true mi mn pi pn oth ro rc q k c ⟨kp, HW⟩) (fun _ _ ⟨he, _⟩ => ⟨_, he⟩) ?_
  rintro v w7 ⟨he, G, HE⟩
  cases he
  replace kg1 := G.has kg1 (by simp; omega)
  replace kg2 := G.has kg2 (by simp; omega)
  replace kg3 := G.has kg3 (by simp; omega)
  replace GG := GG.trans G
  clear kp HW G
  have kp := HE.box
  have HW := HE.win
  clear HE
  refine nr ?_; intro U h; simp only [z0, z1] at h; subst h
  refine s_val 70 rfl rfl (.bool false) (rfl) ?_
  refine nr ?_; intro U h; simp only [z0, z1] at h; subst h
  refine s_val 10 rfl rfl (.bool false) (rfl) ?_
  refine nr ?_; intro U h; simp only [z0, z1] at h; subst h
  refine wpList_nil ?_
  refine then_n ?_
  refine wp_seq ?_
  refine wp_seq ?_
  refine wp_region_opq ?_
  intro OPS hY
  have y1 := hY 1 72 rfl
  clear hY
  refine s_val 71 rfl rfl (.bool true) (rfl) ?_
  refine nr ?_; intro U h; simp only [z0, z1] at h; subst h
  refine s_val 72 rfl rfl (.bool true) (rfl) ?_
  refine nr ?_; intro U h; simp only [z0, z1] at h; subst h
  refine s_gvalY 73 rfl rfl y1 rfl (.bool false) (rfl) ?_
  refine nr ?_; intro U h; simp only [z0, z1] at h; subst h
  refine s_gvalY 74 rfl rfl y1 rfl (.bool true) (run_nt _ _ rfl false rfl) ?_
  refine nr ?_; intro U h; simp only [z0, z1] at h; subst h
  refine s_val 75 rfl rfl (.bool true) (rfl) ?_
  refine nr ?_; intro U h; simp only [z0, z1] at h; subst h
  refine wpList_nil ?_
  refine then_n ?_
  refine wp_cond_true rfl ?_
  refine wp_seq ?_
  refine wp_region_lit ?_
  refine s_val 76 rfl rfl (.pointer (some ⟨p, 0, none⟩)) (rfl) ?_
  refine nr ?_; intro U h; simp only [z0, z1] at h; subst h
  refine s_callx 77 rfl rfl _ 57 Try.call57 rfl rfl _ rfl [.pointer (some ⟨p, 0, none⟩)] rfl (ack_any _ p wp B id up true mi mn pi pn oth ro rc q k c ⟨kp, HW⟩ hk hc) (fun _ _ ⟨_, _, _, _, _, he, _⟩ => ⟨_, he⟩) ?_
  rintro v w8 ⟨s1g, s2g, s3g, aog, capg, he, HVg, G⟩
  cases he
  replace kp := G.has kp
  replace kg1 := G.has kg1
  replace kg2 := G.has kg2
  replace kg3 := G.has kg3
  replace HW := HW.gro G
  replace GG := GG.tg G
  clear G
  refine nr ?_; intro U h; simp only [z0, z1] at h; subst h
  refine s_bsl 78 rfl rfl 50 1 _ rfl [(0, .agg (c46 3 zF 0 false zF zF ((c : Nat) : Int) mi mn pi pn s1g s2g zF 0 zF s3g 0 0 ⟨aog, 0, capg⟩))] rfl (c46 3 zF 0 false zF zF ((c : Nat) : Int) mi mn pi pn s1g s2g zF 0 zF s3g 0 0 ⟨aog, 0, capg⟩) 46 (by kernel_rfl) ?_
  intro w9 g4 G eg4 kg4
  have bg4 := size_basS GG eg4
  have dpg4 := lt_new kp eg4
  have dg1g4 := lt_new kg1 eg4
  have dg2g4 := lt_new kg2 eg4
  have dg3g4 := lt_new kg3 eg4
  replace kp := G.has kp
  replace kg1 := G.has kg1
  replace kg2 := G.has kg2
  replace kg3 := G.has kg3
  replace HW := HW.gro G
  replace HVg := HVg.gro G
  replace GG := GG.tg G
  clear G eg4
  refine nr ?_; intro U h; simp only [z0, z1] at h; subst h
  refine s_val 79 rfl rfl (.agg (c59 false false Sl.nil false ⟨some ⟨g4, 0, none⟩, 1, 1⟩)) (run_bd 59 _ rfl [(4, .slice (some ⟨g4, 0, none⟩) 1 1)] rfl _ (by kernel_rfl)) ?_
  refine nr ?_; intro U h; simp only [z0, z1] at h; subst h
  refine s_store rfl rfl 59 _ _ rfl g3 0 rfl (.agg (c59 false false Sl.nil false ⟨some ⟨g4, 0, none⟩, 1, 1⟩)) rfl 59 _ kg3 (c59 false false Sl.nil false ⟨some ⟨g4, 0, none⟩, 1, 1⟩) rfl (by kernel_rfl) (Nat.le_of_ble_eq_true rfl) (by kernel_rfl) (c59 false false Sl.nil false ⟨some ⟨g4, 0, none⟩, 1, 1⟩) (by kernel_rfl) ?_
  intro w11 St
  replace kp := St.has (by omega) kp
  replace kg1 := St.has (by omega) kg1
  replace kg2 := St.has (by omega) kg2
  replace kg4 := St.has (by omega) kg4
  replace HW := HW.stT (by decide) (by decide) (by decide) kg3 St
  replace HVg := HVg.no5 ((GroS.refl [g3] _).st St (.inr (by simp))) (no5_one kg3 (by decide))
  replace GG := GG.st St (.inl bg3)
  replace kg3 := St.new
  clear St
  refine wpList_nil ?_
  refine then_n ?_
  refine wp_ret ?_
  refine then_r ?_
  refine bodyPost_ret (results_cell_row Try.results44 _ _ g3 59 _ (0, 0) _ rfl kg3 Try.underlying59 rfl (by kernel_rfl)) rfl ?_
  exact ⟨_, (p :: wp :: blk ro), (txb q), rfl, TV.one (f := pfr ⟨3, zF, mi, mn, pi, pn, ((c : Nat) : Int), []⟩ s1g s2g s3g ⟨aog, 0, capg⟩) kg4 HVg, ⟨wp, B, ro, rc, q, ⟨kp, HW⟩, rfl, rfl, rfl⟩, GG.p1, Fresh.refl _ _, Fresh.refl _ _⟩
set_option maxRecDepth 100000 in
set_option maxHeartbeats 4000000 in
theorem greeted_opened (w : World) (p wp B : Nat) (id : Nat → Nat) (up : Bool) (mi mn pi pn : Int) (oth : Nat → Nat) (ro : Option Addr) (rc : Nat) (q : List RV) (k c : Nat) (H : EW w p wp B id up false mi mn pi pn oth ro rc q k c) (fi fn ti tn : Int) (a : Nat → Nat) (ni nn : Int) (hl : decide (cmpP fi fn pi pn < 0) = false) (hz : (decide (fi = 0) && decide (fn = 0)) = false) (hg : decide (0 < cmpP fi fn pi pn) = false) (hs : (decide (ti = mi) && decide (tn = mn)) = true) : Calls Try.prog 44 #[.pointer (some ⟨p, 0, none⟩), .agg (c110 fi fn ti tn a), .agg (c29 ni nn)] w (HearP w p id (p :: wp :: blk ro) (txb q) (⟨up, true, mi, mn, pi, pn, oth, k, (q.map (·.l)), c⟩, ⟨false, true, [], false, [⟨1, id, mi, mn, pi, pn, 0, []⟩]⟩)) := by
  refine s_enter Try.func44 rfl Try.ntmps44 [.pointer (some ⟨p, 0, none⟩), .agg (c110 fi fn ti tn a), .agg (c29 ni nn)] [.pointer (some ⟨p, 0, none⟩), .agg (c110 fi fn ti tn a), .agg (c29 ni nn), undef, undef, undef, undef, undef, undef, undef, undef, undef, undef, undef, undef, undef, undef, undef, undef, undef, undef, undef, undef, undef, undef, undef, undef, undef, undef, undef, undef, undef, undef, undef, undef, undef, undef, undef, undef, undef, undef, undef, undef, undef, undef, undef, undef, undef, undef, undef, undef, undef, undef, undef, undef, undef, undef, undef, undef, undef, undef, undef, undef, undef, undef, undef, undef, undef, undef, undef, undef, undef, undef, undef, undef, undef, undef, undef, undef, undef, undef, undef, undef, undef, undef, undef] rfl ?_
  have GG := GroS.refl [p] w
  have kp := H.box
  have HW := H.win
  have hpl := lt_of_heap kp
  refine wp_seq ?_
  refine wp_region_lit ?_
  refine s_box 4 rfl rfl 110 _ rfl _ rfl (c110 fi fn ti tn a) rfl ?_
  intro w1 g1 G eg1 kg1
  have bg1 := size_basS GG eg1
  have dpg1 := lt_new kp eg1
  replace kp := G.has kp
  replace HW := HW.gro G
  replace GG := GG.tg G
  clear G eg1
  refine nr ?_; intro U h; simp only [z0, z1] at h; subst h
  refine s_box 5 rfl rfl 29 _ rfl _ rfl (c29 ni nn) rfl ?_
  intro w2 g2 G eg2 kg2
  have bg2 := size_basS GG eg2
  have dpg2 := lt_new kp eg2
  have dg1g2 := lt_new kg1 eg2
  replace kp := G.has kp
  replace kg1 := G.has kg1
  replace HW := HW.gro G
  replace GG := GG.tg G
  clear G eg2
  refine nr ?_; intro U h; simp only [z0, z1] at h; subst h
  refine s_alloc 6 rfl rfl 59 rfl _ zv59 _ rfl ?_
  intro w3 g3 G eg3 kg3
  have bg3 := size_basS GG eg3
  have dpg3 := lt_new kp eg3
  have dg1g3 := lt_new kg1 eg3
  have dg2g3 := lt_new kg2 eg3
  replace kp := G.has kp
  replace kg1 := G.has kg1
  replace kg2 := G.has kg2
  replace HW := HW.gro G
  replace GG := GG.tg G
  clear G eg3
  refine nr ?_; intro U h; simp only [z0, z1] at h; subst h
  refine wpList_nil ?_
  refine then_n ?_
  refine wp_seq ?_
  refine wp_region_exA (A := ?Ax7) 6 [(0, 11), (1, 12), (2, 13), (3, 14), (4, 15), (5, 16)] [.val (.pointer (some ⟨g1, 0, none⟩)), .val (.agg (c29 fi fn)), .val (.pointer (some ⟨p, 0, none⟩)), .val (.pointer (some ⟨p, 0, none⟩)), .val (.pointer (some ⟨p, 20, none⟩)), .val (.agg (c29 pi pn))] follows (by kernel_rfl) rfl ?hAx7 (opsA_cons ?o0x7 (opsA_cons ?o1x7 (opsA_cons ?o2x7 (opsA_cons ?o3x7 (opsA_cons ?o4x7 (opsA_cons ?o5x7 opsA_nil)))))) ?restx7
  case hAx7 =>
    intro ptrs
    simp only [full, foldSlots, filledE, postE, List.foldl_cons, List.foldl_nil, List.getD_cons_zero, List.getD_cons_succ, fill_val, List.set_cons_zero, List.set_cons_succ]
    exact rfl
  case o0x7 => exact fun _ _ hw _ => opE_value (v := .pointer (some ⟨g1, 0, none⟩)) rfl (run_fld 110 _ 0 rfl _ _ rfl _ (by kernel_rfl))
  case o1x7 => exact fun _ _ hw _ => opE_value (v := .agg (c29 fi fn)) rfl (run_lda 29 _ rfl g1 0 2 rfl 110 _ (hw.has kg1) _ Try.underlying29 rfl si29 (Nat.le_of_ble_eq_true rfl) _ (by kernel_rfl))
  case o2x7 => exact fun _ _ _ _ => opE_move (v := .pointer (some ⟨p, 0, none⟩)) _ rfl rfl rfl
  case o3x7 => exact fun _ _ hw _ => opE_value (v := .pointer (some ⟨p, 0, none⟩)) rfl (run_nc _ rfl _ rfl)
  case o4x7 => exact fun _ _ hw _ => opE_value (v := .pointer (some ⟨p, 20, none⟩)) rfl (run_fld 98 _ 4 rfl _ _ rfl _ (by kernel_rfl))
  case o5x7 => exact fun _ _ hw _ => opE_value (v := .agg (c29 pi pn)) rfl (run_lda 29 _ rfl p 20 2 rfl 98 _ (hw.has kp) _ Try.underlying29 rfl si29 (Nat.le_of_ble_eq_true rfl) _ (by kernel_rfl))
  intro ptrs w4 GD hxE
  simp only [List.drop_succ_cons, List.drop_zero]
  replace kp := GD.has kp
  replace kg1 := GD.has kg1
  replace kg2 := GD.has kg2
  replace kg3 := GD.has kg3
  replace HW := HW.gro ((Gro.refl _).drew.trans GD)
  replace GG := GG.drew.tg GD
  clear GD
  refine s_callv 17 rfl rfl _ 55 Try.call55 rfl rfl _ rfl [.agg (c29 fi fn), .agg (c29 pi pn)] rfl (compare_any _ fi fn pi pn) ?_
  intro w5 G
  replace kp := G.has kp
  replace kg1 := G.has kg1
  replace kg2 := G.has kg2
  replace kg3 := G.has kg3
  replace HW := HW.gro G
  replace GG := GG.tg G
  clear G
  refine nr ?_; intro U h; simp only [z0, z1] at h; subst h
  refine s_val 7 rfl rfl (.int .i64 (cmpP fi fn pi pn)) (rfl) ?_
  refine nr ?_; intro U h; simp only [z0, z1] at h; subst h
  refine wpList_nil ?_
  refine then_n ?_
  refine wp_seq ?_
  refine wp_seq ?_
  refine wp_region_opq ?_
  intro OPS hY
  have y2 := hY 2 20 rfl
  clear hY
  refine s_val 18 rfl rfl (.int .i64 (cmpP fi fn pi pn)) (rfl) ?_
  refine nr ?_; intro U h; simp only [z0, z1] at h; subst h
  refine s_val 19 rfl rfl (.bool false) (run_lssT 3 _ _ _ rfl (cmpP fi fn pi pn) 0 rfl rfl false hl _) ?_
  refine nr ?_; intro U h; simp only [z0, z1] at h; subst h
  refine s_val 20 rfl rfl (.bool false) (rfl) ?_
  refine nr ?_; intro U h; simp only [z0, z1] at h; subst h
  refine s_gvalY 21 rfl rfl y2 rfl (.pointer (some ⟨g1, 0, none⟩)) (run_fld 110 _ 0 rfl _ _ rfl _ (by kernel_rfl)) ?_
  refine nr ?_; intro U h; simp only [z0, z1] at h; subst h
  refine s_gvalY 22 rfl rfl y2 rfl (.agg (c29 fi fn)) (run_lda 29 _ rfl g1 0 2 rfl 110 _ kg1 _ Try.underlying29 rfl si29 (Nat.le_of_ble_eq_true rfl) _ (by kernel_rfl)) ?_
  refine nr ?_; intro U h; simp only [z0, z1] at h; subst h
  refine s_gvalY 23 rfl rfl y2 rfl (.agg (c29 0 0)) (run_bd 29 _ rfl [] rfl _ (by kernel_rfl)) ?_
  refine nr ?_; intro U h; simp only [z0, z1] at h; subst h
  refine s_gvalY 24 rfl rfl y2 rfl (.bool false) (run_eqN _ _ _ rfl fi fn 0 0 rfl rfl false (hz) _) ?_
  refine nr ?_; intro U h; simp only [z0, z1] at h; subst h
  refine s_val 25 rfl rfl (.bool false) (rfl) ?_
  refine nr ?_; intro U h; simp only [z0, z1] at h; subst h
  refine wpList_nil ?_
  refine then_n ?_
  refine wp_cond_false rfl ?_
  refine wp_skip ?_
  refine then_n ?_
  refine wp_seq ?_
  refine wp_region_opq ?_
  intro OPS hY
  have y2 := hY 2 29 rfl
  clear hY
  refine s_val 27 rfl rfl (.int .i64 (cmpP fi fn pi pn)) (rfl) ?_
  refine nr ?_; intro U h; simp only [z0, z1] at h; subst h
  refine s_val 28 rfl rfl (.bool false) (run_gtrT 3 _ _ _ rfl (cmpP fi fn pi pn) 0 rfl rfl false hg _) ?_
  refine nr ?_; intro U h; simp only [z0, z1] at h; subst h
  refine s_val 29 rfl rfl (.bool false) (rfl) ?_
  refine nr ?_; intro U h; simp only [z0, z1] at h; subst h
  refine s_skipY 30 rfl rfl y2 rfl ?_
  refine nr ?_; intro U h; simp only [z0, z1] at h; subst h
  refine s_skipY 31 rfl rfl y2 rfl ?_
  refine nr ?_; intro U h; simp only [z0, z1] at h; subst h
  refine s_skipY 32 rfl rfl y2 rfl ?_
  refine nr ?_; intro U h; simp only [z0, z1] at h; subst h
  refine s_skipY 33 rfl rfl y2 rfl ?_
  refine nr ?_; intro U h; simp only [z0, z1] at h; subst h
  refine s_val 34 rfl rfl (.bool false) (rfl) ?_
  refine nr ?_; intro U h; simp only [z0, z1] at h; subst h
  refine s_val 8 rfl rfl (.bool false) (rfl) ?_
  refine nr ?_; intro U h; simp only [z0, z1] at h; subst h
  refine wpList_nil ?_
  refine then_n ?_
  refine wp_seq ?_
  refine wp_seq ?_
  refine wp_region_lit ?_
  refine s_val 35 rfl rfl (.bool false) (rfl) ?_
  refine nr ?_; intro U h; simp only [z0, z1] at h; subst h
  refine wpList_nil ?_
  refine then_n ?_
  refine wp_cond_false rfl ?_
  refine wp_skip ?_
  refine then_n ?_
  refine wp_seq ?_
  refine wp_seq ?_
  refine wp_region_lit ?_
  refine s_val 40 rfl rfl (.int .i64 (cmpP fi fn pi pn)) (rfl) ?_
  refine nr ?_; intro U h; simp only [z0, z1] at h; subst h
  refine s_val 41 rfl rfl (.bool false) (run_gtrT 3 _ _ _ rfl (cmpP fi fn pi pn) 0 rfl rfl false hg _) ?_
  refine nr ?_; intro U h; simp only [z0, z1] at h; subst h
  refine wpList_nil ?_
  refine then_n ?_
  refine wp_cond_false rfl ?_
  refine wp_skip ?_
  refine then_n ?_
  refine wp_seq ?_
  refine wp_region_exA (A := ?Ax8) 6 [(0, 59), (1, 60), (2, 61), (3, 62), (4, 63), (5, 64)] [.val (.pointer (some ⟨g1, 2, none⟩)), .val (.agg (c29 ti tn)), .val (.pointer (some ⟨p, 0, none⟩)), .val (.pointer (some ⟨p, 0, none⟩)), .val (.pointer (some ⟨p, 18, none⟩)), .val (.agg (c29 mi mn))] follows (by kernel_rfl) rfl ?hAx8 (opsA_cons ?o0x8 (opsA_cons ?o1x8 (opsA_cons ?o2x8 (opsA_cons ?o3x8 (opsA_cons ?o4x8 (opsA_cons ?o5x8 opsA_nil)))))) ?restx8
  case hAx8 =>
    intro ptrs
    simp only [full, foldSlots, filledE, postE, List.foldl_cons, List.foldl_nil, List.getD_cons_zero, List.getD_cons_succ, fill_val, List.set_cons_zero, List.set_cons_succ]
    exact rfl
  case o0x8 => exact fun _ _ hw _ => opE_value (v := .pointer (some ⟨g1, 2, none⟩)) rfl (run_fld 110 _ 1 rfl _ _ rfl _ (by kernel_rfl))
  case o1x8 => exact fun _ _ hw _ => opE_value (v := .agg (c29 ti tn)) rfl (run_lda 29 _ rfl g1 2 2 rfl 110 _ (hw.has kg1) _ Try.underlying29 rfl si29 (Nat.le_of_ble_eq_true rfl) _ (by kernel_rfl))
  case o2x8 => exact fun _ _ _ _ => opE_move (v := .pointer (some ⟨p, 0, none⟩)) _ rfl rfl rfl
  case o3x8 => exact fun _ _ hw _ => opE_value (v := .pointer (some ⟨p, 0, none⟩)) rfl (run_nc _ rfl _ rfl)
  case o4x8 => exact fun _ _ hw _ => opE_value (v := .pointer (some ⟨p, 18, none⟩)) rfl (run_fld 98 _ 3 rfl _ _ rfl _ (by kernel_rfl))
  case o5x8 => exact fun _ _ hw _ => opE_value (v := .agg (c29 mi mn)) rfl (run_lda 29 _ rfl p 18 2 rfl 98 _ (hw.has kp) _ Try.underlying29 rfl si29 (Nat.le_of_ble_eq_true rfl) _ (by kernel_rfl))
  intro ptrs w6 GD hxE
  simp only [List.drop_succ_cons, List.drop_zero]
  replace kp := GD.has kp
  replace kg1 := GD.has kg1
  replace kg2 := GD.has kg2
  replace kg3 := GD.has kg3
  replace HW := HW.gro ((Gro.refl _).drew.trans GD)
  replace GG := GG.drew.tg GD
  clear GD
  refine s_val 65 rfl rfl (.bool true) (run_eqN _ _ _ rfl ti tn mi mn rfl rfl true (hs) _) ?_
  refine nr ?_; intro U h; simp only [z0, z1] at h; subst h
  refine s_val 9 rfl rfl (.bool true) (rfl) ?_
  refine nr ?_; intro U h; simp only [z0, z1] at h; subst h
  refine wpList_nil ?_
  refine then_n ?_
  refine wp_seq ?_
  refine wp_region_opq ?_
  intro OPS hY
  have y1 := hY 1 67 rfl
  clear hY
  refine s_val 66 rfl rfl (.bool true) (rfl) ?_
  refine nr ?_; intro U h; simp only [z0, z1] at h; subst h
  refine s_val 67 rfl rfl (.bool true) (rfl) ?_
  refine nr ?_; intro U h; simp only [z0, z1] at h; subst h
  refine s_gvalY 68 rfl rfl y1 rfl (.pointer (some ⟨p, 0, none⟩)) (rfl) ?_
  refine nr ?_; intro U h; simp only [z0, z1] at h; subst h
  refine s_gcallxY 69 rfl rfl y1 rfl _ 56 Try.call56 rfl rfl _ rfl [.pointer (some ⟨p, 0, none⟩)] rfl (opens_any _ p wp B id up false mi mn pi pn oth ro rc q k c ⟨kp, HW⟩) (fun _ _ ⟨he, _⟩ => ⟨_, he⟩) ?_
  rintro v w7 ⟨he, G, HE⟩
  cases he
  replace kg1 := G.has kg1 (by simp; omega)
  replace kg2 := G.has kg2 (by simp; omega)
  replace kg3 := G.has kg3 (by simp; omega)
  replace GG := GG.trans G
  clear kp HW G
  have kp := HE.box
  have HW := HE.win
  clear HE
  refine nr ?_; intro U h; simp only [z0, z1] at h; subst h
  refine s_val 70 rfl rfl (.bool true) (rfl) ?_
  refine nr ?_; intro U h; simp only [z0, z1] at h; subst h
  refine s_val 10 rfl rfl (.bool true) (rfl) ?_
  refine nr ?_; intro U h; simp only [z0, z1] at h; subst h
  refine wpList_nil ?_
  refine then_n ?_
  refine wp_seq ?_
  refine wp_seq ?_
  refine wp_region_opq ?_
  intro OPS hY
  have y1 := hY 1 72 rfl
  clear hY
  refine s_val 71 rfl rfl (.bool true) (rfl) ?_
  refine nr ?_; intro U h; simp only [z0, z1] at h; subst h
  refine s_val 72 rfl rfl (.bool true) (rfl) ?_
  refine nr ?_; intro U h; simp only [z0, z1] at h; subst h
  refine s_gvalY 73 rfl rfl y1 rfl (.bool true) (rfl) ?_
  refine nr ?_; intro U h; simp only [z0, z1] at h; subst h
  refine s_gvalY 74 rfl rfl y1 rfl (.bool false) (run_nt _ _ rfl true rfl) ?_
  refine nr ?_; intro U h; simp only [z0, z1] at h; subst h
  refine s_val 75 rfl rfl (.bool false) (rfl) ?_
  refine nr ?_; intro U h; simp only [z0, z1] at h; subst h
  refine wpList_nil ?_
  refine then_n ?_
  refine wp_cond_false rfl ?_
  refine wp_skip ?_
  refine then_n ?_
  refine wp_seq ?_
  refine wp_region_lit ?_
  refine s_val 80 rfl rfl (.bool false) (rfl) ?_
  refine nr ?_; intro U h; simp only [z0, z1] at h; subst h
  refine s_val 81 rfl rfl (.bool true) (rfl) ?_
  refine nr ?_; intro U h; simp only [z0, z1] at h; subst h
  refine s_val 82 rfl rfl (.pointer (some ⟨p, 0, none⟩)) (rfl) ?_
  refine nr ?_; intro U h; simp only [z0, z1] at h; subst h
  refine s_callx 83 rfl rfl _ 35 Try.call35 rfl rfl _ rfl [.pointer (some ⟨p, 0, none⟩)] rfl (greeting_any _ p wp B id up true mi mn pi pn oth ro rc q k c ⟨kp, HW⟩) (fun _ _ ⟨_, _, _, _, _, he, _⟩ => ⟨_, he⟩) ?_
  rintro v w8 ⟨s1g, s2g, s3g, aog, capg, he, HVg, G⟩
  cases he
  replace kp := G.has kp
  replace kg1 := G.has kg1
  replace kg2 := G.has kg2
  replace kg3 := G.has kg3
  replace HW := HW.gro G
  replace GG := GG.tg G
  clear G
  refine nr ?_; intro U h; simp only [z0, z1] at h; subst h
  refine s_bsl 84 rfl rfl 50 1 _ rfl [(0, .agg (c46 1 zF 0 false id zF 0 mi mn pi pn s1g s2g zF 0 zF s3g 0 0 ⟨aog, 0, capg⟩))] rfl (c46 1 zF 0 false id zF 0 mi mn pi pn s1g s2g zF 0 zF s3g 0 0 ⟨aog, 0, capg⟩) 46 (by kernel_rfl) ?_
  intro w9 g4 G eg4 kg4
  have bg4 := size_basS GG eg4
  have dpg4 := lt_new kp eg4
  have dg1g4 := lt_new kg1 eg4
  have dg2g4 := lt_new kg2 eg4
  have dg3g4 := lt_new kg3 eg4
  replace kp := G.has kp
  replace kg1 := G.has kg1
  replace kg2 := G.has kg2
  replace kg3 := G.has kg3
  replace HW := HW.gro G
  replace HVg := HVg.gro G
  replace GG := GG.tg G
  clear G eg4
  refine nr ?_; intro U h; simp only [z0, z1] at h; subst h
  refine s_val 85 rfl rfl (.agg (c59 false true Sl.nil false ⟨some ⟨g4, 0, none⟩, 1, 1⟩)) (run_bd 59 _ rfl [(0, .bool false), (1, .bool true), (4, .slice (some ⟨g4, 0, none⟩) 1 1)] rfl _ (by kernel_rfl)) ?_
  refine nr ?_; intro U h; simp only [z0, z1] at h; subst h
  refine s_store rfl rfl 59 _ _ rfl g3 0 rfl (.agg (c59 false true Sl.nil false ⟨some ⟨g4, 0, none⟩, 1, 1⟩)) rfl 59 _ kg3 (c59 false true Sl.nil false ⟨some ⟨g4, 0, none⟩, 1, 1⟩) rfl (by kernel_rfl) (Nat.le_of_ble_eq_true rfl) (by kernel_rfl) (c59 false true Sl.nil false ⟨some ⟨g4, 0, none⟩, 1, 1⟩) (by kernel_rfl) ?_
  intro w11 St
  replace kp := St.has (by omega) kp
  replace kg1 := St.has (by omega) kg1
  replace kg2 := St.has (by omega) kg2
  replace kg4 := St.has (by omega) kg4
  replace HW := HW.stT (by decide) (by decide) (by decide) kg3 St
  replace HVg := HVg.no5 ((GroS.refl [g3] _).st St (.inr (by simp))) (no5_one kg3 (by decide))
  replace GG := GG.st St (.inl bg3)
  replace kg3 := St.new
  clear St
  refine wpList_nil ?_
  refine then_n ?_
  refine wp_ret ?_
  refine bodyPost_ret (results_cell_row Try.results44 _ _ g3 59 _ (0, 0) _ rfl kg3 Try.underlying59 rfl (by kernel_rfl)) rfl ?_
  exact ⟨_, (p :: wp :: blk ro), (txb q), rfl, TV.one (f := pfr ⟨1, id, mi, mn, pi, pn, 0, []⟩ s1g s2g s3g ⟨aog, 0, capg⟩) kg4 HVg, ⟨wp, B, ro, rc, q, ⟨kp, HW⟩, rfl, rfl, rfl⟩, GG.p1, Fresh.refl _ _, Fresh.refl _ _⟩
set_option maxRecDepth 100000 in
set_option maxHeartbeats 4000000 in
theorem greeted_anew (w : World) (p wp B : Nat) (id : Nat → Nat) (up : Bool) (mi mn pi pn : Int) (oth : Nat → Nat) (ro : Option Addr) (rc : Nat) (q : List RV) (k c : Nat) (H : EW w p wp B id up false mi mn pi pn oth ro rc q k c) (fi fn ti tn : Int) (a : Nat → Nat) (ni nn : Int) (hl : decide (cmpP fi fn pi pn < 0) = false) (hz : (decide (fi = 0) && decide (fn = 0)) = false) (hg : decide (0 < cmpP fi fn pi pn) = true) (hs : (decide (ti = mi) && decide (tn = mn)) = false) : Calls Try.prog 44 #[.pointer (some ⟨p, 0, none⟩), .agg (c110 fi fn ti tn a), .agg (c29 ni nn)] w (HearP w p id (p :: wp :: blk ro) (txb q) (⟨up, false, mi, mn, fi, fn, a, 0, [], 0⟩, ⟨false, false, [], false, [⟨1, id, mi, mn, fi, fn, 0, []⟩]⟩)) := by
  refine s_enter Try.func44 rfl Try.ntmps44 [.pointer (some ⟨p, 0, none⟩), .agg (c110 fi fn ti tn a), .agg (c29 ni nn)] [.pointer (some ⟨p, 0, none⟩), .agg (c110 fi fn ti tn a), .agg (c29 ni nn), undef, undef, undef, undef, undef, undef, undef, undef, undef, undef, undef, undef, undef, undef, undef, undef, undef, undef, undef, undef, undef, undef, undef, undef, undef, undef, undef, undef, undef, undef, undef, undef, undef, undef, undef, undef, undef, undef, undef, undef, undef, undef, undef, undef, undef, undef, undef, undef, undef, undef, undef, undef, undef, undef, undef, undef, undef, undef, undef, undef, undef, undef, undef, undef, undef, undef, undef, undef, undef, undef, undef, undef, undef, undef, undef, undef, undef, undef, undef, undef, undef, undef, undef] rfl ?_
  have GG := GroS.refl [p] w
  have kp := H.box
  have HW := H.win
  have hpl := lt_of_heap kp
  refine wp_seq ?_
  refine wp_region_lit ?_
  refine s_box 4 rfl rfl 110 _ rfl _ rfl (c110 fi fn ti tn a) rfl ?_
  intro w1 g1 G eg1 kg1
  have bg1 := size_basS GG eg1
  have dpg1 := lt_new kp eg1
  replace kp := G.has kp
  replace HW := HW.gro G
  replace GG := GG.tg G
  clear G eg1
  refine nr ?_; intro U h; simp only [z0, z1] at h; subst h
  refine s_box 5 rfl rfl 29 _ rfl _ rfl (c29 ni nn) rfl ?_
  intro w2 g2 G eg2 kg2
  have bg2 := size_basS GG eg2
  have dpg2 := lt_new kp eg2
  have dg1g2 := lt_new kg1 eg2
  replace kp := G.has kp
  replace kg1 := G.has kg1
  replace HW := HW.gro G
  replace GG := GG.tg G
  clear G eg2
  refine nr ?_; intro U h; simp only [z0, z1] at h; subst h
  refine s_alloc 6 rfl rfl 59 rfl _ zv59 _ rfl ?_
  intro w3 g3 G eg3 kg3
  have bg3 := size_basS GG eg3
  have dpg3 := lt_new kp eg3
  have dg1g3 := lt_new kg1 eg3
  have dg2g3 := lt_new kg2 eg3
  replace kp := G.has kp
  replace kg1 := G.has kg1
  replace kg2 := G.has kg2
  replace HW := HW.gro G
  replace GG := GG.tg G
  clear G eg3
  refine nr ?_; intro U h; simp only [z0, z1] at h; subst h
  refine wpList_nil ?_
  refine then_n ?_
  refine wp_seq ?_
  refine wp_region_exA (A := ?Ax9) 6 [(0, 11), (1, 12), (2, 13), (3, 14), (4, 15), (5, 16)] [.val (.pointer (some ⟨g1, 0, none⟩)), .val (.agg (c29 fi fn)), .val (.pointer (some ⟨p, 0, none⟩)), .val (.pointer (some ⟨p, 0, none⟩)), .val (.pointer (some ⟨p, 20, none⟩)), .val (.agg (c29 pi pn))] follows (by kernel_rfl) rfl ?hAx9 (opsA_cons ?o0x9 (opsA_cons ?o1x9 (opsA_cons ?o2x9 (opsA_cons ?o3x9 (opsA_cons ?o4x9 (opsA_cons ?o5x9 opsA_nil)))))) ?restx9
  case hAx9 =>
    intro ptrs
    simp only [full, foldSlots, filledE, postE, List.foldl_cons, List.foldl_nil, List.getD_cons_zero, List.getD_cons_succ, fill_val, List.set_cons_zero, List.set_cons_succ]
    exact rfl
  case o0x9 => exact fun _ _ hw _ => opE_value (v := .pointer (some ⟨g1, 0, none⟩)) rfl (run_fld 110 _ 0 rfl _ _ rfl _ (by kernel_rfl))
  case o1x9 => exact fun _ _ hw _ => opE_value (v := .agg (c29 fi fn)) rfl (run_lda 29 _ rfl g1 0 2 rfl 110 _ (hw.has kg1) _ Try.underlying29 rfl si29 (Nat.le_of_ble_eq_true rfl) _ (by kernel_rfl))
  case o2x9 => exact fun _ _ _ _ => opE_move (v := .pointer (some ⟨p, 0, none⟩)) _ rfl rfl rfl
  case o3x9 => exact fun _ _ hw _ => opE_value (v := .pointer (some ⟨p, 0, none⟩)) rfl (run_nc _ rfl _ rfl)
  case o4x9 => exact fun _ _ hw _ => opE_value (v := .pointer (some ⟨p, 20, none⟩)) rfl (run_fld 98 _ 4 rfl _ _ rfl _ (by kernel_rfl))
  case o5x9 => exact fun _ _ hw _ => opE_value (v := .agg (c29 pi pn)) rfl (run_lda 29 _ rfl p 20 2 rfl 98 _ (hw.has kp) _ Try.underlying29 rfl si29 (Nat.le_of_ble_eq_true rfl) _ (by kernel_rfl))
  intro ptrs w4 GD hxE
  simp only [List.drop_succ_cons, List.drop_zero]
  replace kp := GD.has kp
  replace kg1 := GD.has kg1
  replace kg2 := GD.has kg2
  replace kg3 := GD.has kg3
  replace HW := HW.gro ((Gro.refl _).drew.trans GD)
  replace GG := GG.drew.tg GD
  clear GD
  refine s_callv 17 rfl rfl _ 55 Try.call55 rfl rfl _ rfl [.agg (c29 fi fn), .agg (c29 pi pn)] rfl (compare_any _ fi fn pi pn) ?_
  intro w5 G
  replace kp := G.has kp
  replace kg1 := G.has kg1
  replace kg2 := G.has kg2
  replace kg3 := G.has kg3
  replace HW := HW.gro G
  replace GG := GG.tg G
  clear G
  refine nr ?_; intro U h; simp only [z0, z1] at h; subst h
  refine s_val 7 rfl rfl (.int .i64 (cmpP fi fn pi pn)) (rfl) ?_
  refine nr ?_; intro U h; simp only [z0, z1] at h; subst h
  refine wpList_nil ?_
  refine then_n ?_
  refine wp_seq ?_
  refine wp_seq ?_
  refine wp_region_opq ?_
  intro OPS hY
  have y2 := hY 2 20 rfl
  clear hY
  refine s_val 18 rfl rfl (.int .i64 (cmpP fi fn pi pn)) (rfl) ?_
  refine nr ?_; intro U h; simp only [z0, z1] at h; subst h
  refine s_val 19 rfl rfl (.bool false) (run_lssT 3 _ _ _ rfl (cmpP fi fn pi pn) 0 rfl rfl false hl _) ?_
  refine nr ?_; intro U h; simp only [z0, z1] at h; subst h
  refine s_val 20 rfl rfl (.bool false) (rfl) ?_
  refine nr ?_; intro U h; simp only [z0, z1] at h; subst h
  refine s_gvalY 21 rfl rfl y2 rfl (.pointer (some ⟨g1, 0, none⟩)) (run_fld 110 _ 0 rfl _ _ rfl _ (by kernel_rfl)) ?_
  refine nr ?_; intro U h; simp only [z0, z1] at h; subst h
  refine s_gvalY 22 rfl rfl y2 rfl (.agg (c29 fi fn)) (run_lda 29 _ rfl g1 0 2 rfl 110 _ kg1 _ Try.underlying29 rfl si29 (Nat.le_of_ble_eq_true rfl) _ (by kernel_rfl)) ?_
  refine nr ?_; intro U h; simp only [z0, z1] at h; subst h
  refine s_gvalY 23 rfl rfl y2 rfl (.agg (c29 0 0)) (run_bd 29 _ rfl [] rfl _ (by kernel_rfl)) ?_
  refine nr ?_; intro U h; simp only [z0, z1] at h; subst h
  refine s_gvalY 24 rfl rfl y2 rfl (.bool false) (run_eqN _ _ _ rfl fi fn 0 0 rfl rfl false (hz) _) ?_
  refine nr ?_; intro U h; simp only [z0, z1] at h; subst h
  refine s_val 25 rfl rfl (.bool false) (rfl) ?_
  refine nr ?_; intro U h; simp only [z0, z1] at h; subst h
  refine wpList_nil ?_
  refine then_n ?_
  refine wp_cond_false rfl ?_
  refine wp_skip ?_
  refine then_n ?_
  refine wp_seq ?_
  refine wp_region_opq ?_
  intro OPS hY
  have y2 := hY 2 29 rfl
  clear hY
  refine s_val 27 rfl rfl (.int .i64 (cmpP fi fn pi pn)) (rfl) ?_
  refine nr ?_; intro U h; simp only [z0, z1] at h; subst h
  refine s_val 28 rfl rfl (.bool true) (run_gtrT 3 _ _ _ rfl (cmpP fi fn pi pn) 0 rfl rfl true hg _) ?_
  refine nr ?_; intro U h; simp only [z0, z1] at h; subst h
  refine s_val 29 rfl rfl (.bool true) (rfl) ?_
  refine nr ?_; intro U h; simp only [z0, z1] at h; subst h
  refine s_gvalY 30 rfl rfl y2 rfl (.pointer (some ⟨p, 0, none⟩)) (rfl) ?_
  refine nr ?_; intro U h; simp only [z0, z1] at h; subst h
  refine s_gvalY 31 rfl rfl y2 rfl (.pointer (some ⟨p, 0, none⟩)) (run_nc _ rfl _ rfl) ?_
  refine nr ?_; intro U h; simp only [z0, z1] at h; subst h
  refine s_gvalY 32 rfl rfl y2 rfl (.pointer (some ⟨p, 17, none⟩)) (run_fld 98 _ 2 rfl _ _ rfl _ (by kernel_rfl)) ?_
  refine nr ?_; intro U h; simp only [z0, z1] at h; subst h
  refine s_gvalY 33 rfl rfl y2 rfl (.bool false) (run_ldc 4 _ rfl p 17 rfl 98 _ kp (na4 _) _ rfl) ?_
  refine nr ?_; intro U h; simp only [z0, z1] at h; subst h
  refine s_val 34 rfl rfl (.bool false) (rfl) ?_
  refine nr ?_; intro U h; simp only [z0, z1] at h; subst h
  refine s_val 8 rfl rfl (.bool false) (rfl) ?_
  refine nr ?_; intro U h; simp only [z0, z1] at h; subst h
  refine wpList_nil ?_
  refine then_n ?_
  refine wp_seq ?_
  refine wp_seq ?_
  refine wp_region_lit ?_
  refine s_val 35 rfl rfl (.bool false) (rfl) ?_
  refine nr ?_; intro U h; simp only [z0, z1] at h; subst h
  refine wpList_nil ?_
  refine then_n ?_
  refine wp_cond_false rfl ?_
  refine wp_skip ?_
  refine then_n ?_
  refine wp_seq ?_
  refine wp_seq ?_
  refine wp_region_lit ?_
  refine s_val 40 rfl rfl (.int .i64 (cmpP fi fn pi pn)) (rfl) ?_
  refine nr ?_; intro U h; simp only [z0, z1] at h; subst h
  refine s_val 41 rfl rfl (.bool true) (run_gtrT 3 _ _ _ rfl (cmpP fi fn pi pn) 0 rfl rfl true hg _) ?_
  refine nr ?_; intro U h; simp only [z0, z1] at h; subst h
  refine wpList_nil ?_
  refine then_n ?_
  refine wp_cond_true rfl ?_
  clear HW
  refine wp_region_pm (A := ?Ap1) (fun L x => GroS [p] w x ∧ x.heap[p]? = some (.cells (cond (L 17) (c98 id up false mi mn fi fn a (some ⟨wp, 0, none⟩)) (cond (L 14) (c98 id up false mi mn fi fn oth (some ⟨wp, 0, none⟩)) (cond (L 11) (c98 id up false mi mn pi pn oth (some ⟨wp, 0, none⟩)) (c98 id up false mi mn pi pn oth (some ⟨wp, 0, none⟩))))) 98 (0, 0)) ∧ x.heap[g1]? = some (.cells (c110 fi fn ti tn a) 110 (0, 0)) ∧ x.heap[g2]? = some (.cells (c29 ni nn) 29 (0, 0)) ∧ x.heap[g3]? = some (.cells (c59 false false Sl.nil false Sl.nil) 59 (0, 0))) 18 [(0, 42), (1, 43), (2, 44), (3, 45), (4, 46), (5, 47), (6, 48), (7, 49), (8, 50), (9, 51), (10, 52), (12, 53), (13, 54), (15, 55), (16, 56)] [.val (.pointer (some ⟨p, 0, none⟩)), .val (.pointer (some ⟨p, 0, none⟩)), .val (.pointer (some ⟨p, 0, none⟩)), .val (.pointer (some ⟨p, 0, none⟩)), .val (.pointer (some ⟨g1, 0, none⟩)), .val (.agg (c29 fi fn)), .val (.pointer (some ⟨g1, 4, none⟩)), .val (.agg (c23 a)), nwE w.heap.size, .val (.pointer (some ⟨p, 0, none⟩)), .val (.pointer (some ⟨p, 17, none⟩)), .val undef, .val (.pointer (some ⟨p, 0, none⟩)), .val (.pointer (some ⟨p, 20, none⟩)), .val undef, .val (.pointer (some ⟨p, 0, none⟩)), .val (.pointer (some ⟨p, 22, none⟩)), .val undef] [] [8] follows (by kernel_rfl) rfl (by kernel_rfl) (by decide) ⟨GG.drew, (Gro.refl _).drew.has kp, (Gro.refl _).drew.has kg1, (Gro.refl _).drew.has kg2, (Gro.refl _).drew.has kg3⟩ ?hAp1 (opsM_g (fun _ _ _ h _ G => ⟨h.1.tg G, G.has h.2.1, G.has h.2.2.1, G.has h.2.2.2.1, G.has h.2.2.2.2⟩) ?o0p1 (opsM_g (fun _ _ _ h _ G => ⟨h.1.tg G, G.has h.2.1, G.has h.2.2.1, G.has h.2.2.2.1, G.has h.2.2.2.2⟩) ?o1p1 (opsM_g (fun _ _ _ h _ G => ⟨h.1.tg G, G.has h.2.1, G.has h.2.2.1, G.has h.2.2.2.1, G.has h.2.2.2.2⟩) ?o2p1 (opsM_g (fun _ _ _ h _ G => ⟨h.1.tg G, G.has h.2.1, G.has h.2.2.1, G.has h.2.2.2.1, G.has h.2.2.2.2⟩) ?o3p1 (opsM_g (fun _ _ _ h _ G => ⟨h.1.tg G, G.has h.2.1, G.has h.2.2.1, G.has h.2.2.2.1, G.has h.2.2.2.2⟩) ?o4p1 (opsM_g (fun _ _ _ h _ G => ⟨h.1.tg G, G.has h.2.1, G.has h.2.2.1, G.has h.2.2.2.1, G.has h.2.2.2.2⟩) ?o5p1 (opsM_g (fun _ _ _ h _ G => ⟨h.1.tg G, G.has h.2.1, G.has h.2.2.1, G.has h.2.2.2.1, G.has h.2.2.2.2⟩) ?o6p1 (opsM_g (fun _ _ _ h _ G => ⟨h.1.tg G, G.has h.2.1, G.has h.2.2.1, G.has h.2.2.2.1, G.has h.2.2.2.2⟩) ?o7p1 (opsM_g (fun _ _ _ h _ G => ⟨h.1.tg G, G.has h.2.1, G.has h.2.2.1, G.has h.2.2.2.1, G.has h.2.2.2.2⟩) ?o8p1 (opsM_g (fun _ _ _ h _ G => ⟨h.1.tg G, G.has h.2.1, G.has h.2.2.1, G.has h.2.2.2.1, G.has h.2.2.2.2⟩) ?o9p1 (opsM_g (fun _ _ _ h _ G => ⟨h.1.tg G, G.has h.2.1, G.has h.2.2.1, G.has h.2.2.2.1, G.has h.2.2.2.2⟩) ?o10p1 (opsM_w ?o11p1 (opsM_g (fun _ _ _ h _ G => ⟨h.1.tg G, G.has h.2.1, G.has h.2.2.1, G.has h.2.2.2.1, G.has h.2.2.2.2⟩) ?o12p1 (opsM_g (fun _ _ _ h _ G => ⟨h.1.tg G, G.has h.2.1, G.has h.2.2.1, G.has h.2.2.2.1, G.has h.2.2.2.2⟩) ?o13p1 (opsM_w ?o14p1 (opsM_g (fun _ _ _ h _ G => ⟨h.1.tg G, G.has h.2.1, G.has h.2.2.1, G.has h.2.2.2.1, G.has h.2.2.2.2⟩) ?o15p1 (opsM_g (fun _ _ _ h _ G => ⟨h.1.tg G, G.has h.2.1, G.has h.2.2.1, G.has h.2.2.2.1, G.has h.2.2.2.2⟩) ?o16p1 (opsM_w ?o17p1 opsM_nil)))))))))))))))))) ?restp1
  case hAp1 =>
    intro ptrs
    simp only [full, foldSlots, filledE, postE, List.foldl_cons, List.foldl_nil, List.getD_cons_zero, List.getD_cons_succ, fill_val, fill_nw,  List.set_cons_zero, List.set_cons_succ]
    exact rfl
  case o0p1 => exact fun _ _ _ _ _ _ _ _ => opE_move (v := .pointer (some ⟨p, 0, none⟩)) _ rfl rfl rfl
  case o1p1 => exact fun _ _ _ _ _ _ _ _ => opE_move (v := .pointer (some ⟨p, 0, none⟩)) _ rfl rfl rfl
  case o2p1 => exact fun _ _ _ _ _ _ _ _ => opE_move (v := .pointer (some ⟨p, 0, none⟩)) _ rfl rfl rfl
  case o3p1 => exact fun _ _ _ _ _ _ _ _ => opE_move (v := .pointer (some ⟨p, 0, none⟩)) _ rfl rfl rfl
  case o4p1 => exact fun _ _ x hx _ _ _ _ => opE_value (v := .pointer (some ⟨g1, 0, none⟩)) rfl (run_fld 110 _ 0 rfl _ _ rfl _ (by kernel_rfl))
  case o5p1 => exact fun _ _ x hx _ _ _ _ => opE_value (v := .agg (c29 fi fn)) rfl (run_lda 29 _ rfl g1 0 2 rfl 110 _ hx.2.2.1 _ Try.underlying29 rfl si29 (Nat.le_of_ble_eq_true rfl) _ (by kernel_rfl))
  case o6p1 => exact fun _ _ x hx _ _ _ _ => opE_value (v := .pointer (some ⟨g1, 4, none⟩)) rfl (run_fld 110 _ 2 rfl _ _ rfl _ (by kernel_rfl))
  case o7p1 => exact fun _ _ x hx _ _ _ _ => opE_value (v := .agg (c23 a)) rfl (run_lda 23 _ rfl g1 4 16 rfl 110 _ hx.2.2.1 _ Try.underlying23 rfl si23 (Nat.le_of_ble_eq_true rfl) _ (by kernel_rfl))
  case o8p1 =>
    intro _ _ x hx _ _ _ _
    exact opE_call (nwE w.heap.size) rfl _ 34 Try.call34 rfl rfl _ rfl [] rfl ((new_any _).mono fun e w' ⟨g, he, hg, hz, hk⟩ => ⟨_, he, hg, g, rfl, Nat.le_trans hx.1.size hz, hk.base0 hx.1.size⟩)
  case o9p1 => exact fun _ _ x hx _ _ _ _ => opE_value (v := .pointer (some ⟨p, 0, none⟩)) rfl (run_nc _ rfl _ rfl)
  case o10p1 => exact fun _ _ x hx _ _ _ _ => opE_value (v := .pointer (some ⟨p, 17, none⟩)) rfl (run_fld 98 _ 2 rfl _ _ rfl _ (by kernel_rfl))
  case o11p1 =>
    intro L ptrs x hx hL hed hno _
    have hk := hx.2.1
    have h14 : L 14 = false := hno 14 (by kernel_rfl)
    have h17 : L 17 = false := hno 17 (by kernel_rfl)
    rw [h17, h14, hL] at hk
    replace hk : x.heap[p]? = some (.cells (c98 id up false mi mn pi pn oth (some ⟨wp, 0, none⟩)) 98 (0, 0)) := hk
    refine opX_store _ rfl 4 _ _ rfl p 17 rfl (.bool false) rfl 98 _ hk #[.bool false] rfl (by kernel_rfl) (Nat.le_of_ble_eq_true rfl) (by kernel_rfl) (c98 id up false mi mn pi pn oth (some ⟨wp, 0, none⟩)) (by kernel_rfl) ?_
    intro y St
    exact ⟨⟨⟨hx.1.st St (.inr (by simp)), (by rw [show upd L 11 17 = false from h17, show upd L 11 14 = false from h14]; exact St.new), St.has (by omega) hx.2.2.1, St.has (by omega) hx.2.2.2.1, St.has (by omega) hx.2.2.2.2⟩, StM.valsX [0, 1, 2, 3, 4, 5, 6, 7, 9, 10, 12, 13, 14, 15, 16, 17] [8] (by kernel_rfl) ⟨⟨_, rfl⟩, ⟨_, rfl⟩, ⟨_, rfl⟩, ⟨_, rfl⟩, ⟨_, rfl⟩, ⟨_, rfl⟩, ⟨_, rfl⟩, ⟨_, rfl⟩, ⟨_, rfl⟩, ⟨_, rfl⟩, ⟨_, rfl⟩, ⟨_, rfl⟩, ⟨_, rfl⟩, ⟨_, rfl⟩, ⟨_, rfl⟩, ⟨_, rfl⟩, trivial⟩ (fun j hj u hp => by cases List.mem_singleton.1 hj; obtain ⟨g, h1, h2, h3⟩ := hp; exact ⟨g, h1, h2, h3.stT (by decide) (by decide) (by decide) hk St⟩)⟩, rfl⟩
  case o12p1 => exact fun _ _ x hx _ _ _ _ => opE_value (v := .pointer (some ⟨p, 0, none⟩)) rfl (run_nc _ rfl _ rfl)
  case o13p1 => exact fun _ _ x hx _ _ _ _ => opE_value (v := .pointer (some ⟨p, 20, none⟩)) rfl (run_fld 98 _ 4 rfl _ _ rfl _ (by kernel_rfl))
  case o14p1 =>
    intro L ptrs x hx hL hed hno _
    have hk := hx.2.1
    have h11 : L 11 = true := hed 11 (by kernel_rfl)
    have h17 : L 17 = false := hno 17 (by kernel_rfl)
    rw [h17, hL, h11] at hk
    replace hk : x.heap[p]? = some (.cells (c98 id up false mi mn pi pn oth (some ⟨wp, 0, none⟩)) 98 (0, 0)) := hk
    refine opX_store _ rfl 29 _ _ rfl p 20 rfl (.agg (c29 fi fn)) rfl 98 _ hk (c29 fi fn) rfl (by kernel_rfl) (Nat.le_of_ble_eq_true rfl) (by kernel_rfl) (c98 id up false mi mn fi fn oth (some ⟨wp, 0, none⟩)) (by kernel_rfl) ?_
    intro y St
    exact ⟨⟨⟨hx.1.st St (.inr (by simp)), (by rw [show upd L 14 17 = false from h17]; exact St.new), St.has (by omega) hx.2.2.1, St.has (by omega) hx.2.2.2.1, St.has (by omega) hx.2.2.2.2⟩, StM.valsX [0, 1, 2, 3, 4, 5, 6, 7, 9, 10, 11, 12, 13, 15, 16, 17] [8] (by kernel_rfl) ⟨⟨_, rfl⟩, ⟨_, rfl⟩, ⟨_, rfl⟩, ⟨_, rfl⟩, ⟨_, rfl⟩, ⟨_, rfl⟩, ⟨_, rfl⟩, ⟨_, rfl⟩, ⟨_, rfl⟩, ⟨_, rfl⟩, ⟨_, rfl⟩, ⟨_, rfl⟩, ⟨_, rfl⟩, ⟨_, rfl⟩, ⟨_, rfl⟩, ⟨_, rfl⟩, trivial⟩ (fun j hj u hp => by cases List.mem_singleton.1 hj; obtain ⟨g, h1, h2, h3⟩ := hp; exact ⟨g, h1, h2, h3.stT (by decide) (by decide) (by decide) hk St⟩)⟩, rfl⟩
  case o15p1 => exact fun _ _ x hx _ _ _ _ => opE_value (v := .pointer (some ⟨p, 0, none⟩)) rfl (run_nc _ rfl _ rfl)
  case o16p1 => exact fun _ _ x hx _ _ _ _ => opE_value (v := .pointer (some ⟨p, 22, none⟩)) rfl (run_fld 98 _ 5 rfl _ _ rfl _ (by kernel_rfl))
  case o17p1 =>
    intro L ptrs x hx hL hed hno _
    have hk := hx.2.1
    have h11 : L 11 = true := hed 11 (by kernel_rfl)
    have h14 : L 14 = true := hed 14 (by kernel_rfl)
    rw [hL, h14, h11] at hk
    replace hk : x.heap[p]? = some (.cells (c98 id up false mi mn fi fn oth (some ⟨wp, 0, none⟩)) 98 (0, 0)) := hk
    refine opX_store _ rfl 23 _ _ rfl p 22 rfl (.agg (c23 a)) rfl 98 _ hk (c23 a) rfl (by kernel_rfl) (Nat.le_of_ble_eq_true rfl) (by kernel_rfl) (c98 id up false mi mn fi fn a (some ⟨wp, 0, none⟩)) (by kernel_rfl) ?_
    intro y St
    exact ⟨⟨⟨hx.1.st St (.inr (by simp)), St.new, St.has (by omega) hx.2.2.1, St.has (by omega) hx.2.2.2.1, St.has (by omega) hx.2.2.2.2⟩, StM.valsX [0, 1, 2, 3, 4, 5, 6, 7, 9, 10, 11, 12, 13, 14, 15, 16] [8] (by kernel_rfl) ⟨⟨_, rfl⟩, ⟨_, rfl⟩, ⟨_, rfl⟩, ⟨_, rfl⟩, ⟨_, rfl⟩, ⟨_, rfl⟩, ⟨_, rfl⟩, ⟨_, rfl⟩, ⟨_, rfl⟩, ⟨_, rfl⟩, ⟨_, rfl⟩, ⟨_, rfl⟩, ⟨_, rfl⟩, ⟨_, rfl⟩, ⟨_, rfl⟩, ⟨_, rfl⟩, trivial⟩ (fun j hj u hp => by cases List.mem_singleton.1 hj; obtain ⟨g, h1, h2, h3⟩ := hp; exact ⟨g, h1, h2, h3.stT (by decide) (by decide) (by decide) hk St⟩)⟩, rfl⟩
  intro ptrs w6 HJ hxE
  simp only [List.drop_succ_cons, List.drop_zero]
  clear GG kp kg1 kg2 kg3
  obtain ⟨GG, kp, kg1, kg2, kg3⟩ := HJ
  replace kp : w6.heap[p]? = some (.cells (c98 id up false mi mn fi fn a (some ⟨wp, 0, none⟩)) 98 (0, 0)) := kp
  obtain ⟨⟨wp2, hv, hwp2, HW2⟩, _⟩ := hxE
  simp only [hv]
  clear hv hxE
  refine s_val 57 rfl rfl (.pointer (some ⟨p, 0, none⟩)) (run_nc _ rfl _ rfl) ?_
  refine nr ?_; intro U h; simp only [z0, z1] at h; subst h
  refine s_val 58 rfl rfl (.pointer (some ⟨p, 38, none⟩)) (run_fld 98 _ 6 rfl _ _ rfl _ (by kernel_rfl)) ?_
  refine nr ?_; intro U h; simp only [z0, z1] at h; subst h
  refine s_store rfl rfl 95 _ _ rfl p 38 rfl (.pointer (some ⟨wp2, 0, none⟩)) rfl 98 _ kp #[.pointer (some ⟨wp2, 0, none⟩)] rfl (by kernel_rfl) (Nat.le_of_ble_eq_true rfl) (by kernel_rfl) (c98 id up false mi mn fi fn a (some ⟨wp2, 0, none⟩)) (by kernel_rfl) ?_
  intro w8 St
  replace kg1 := St.has (by omega) kg1
  replace kg2 := St.has (by omega) kg2
  replace kg3 := St.has (by omega) kg3
  replace HW2 := HW2.stT (by decide) (by decide) (by decide) kp St
  replace GG := GG.st St (.inr (by simp))
  replace kp := St.new
  clear St
  refine wpList_nil ?_
  refine then_n ?_
  refine wp_seq ?_
  refine wp_region_exA (A := ?Ax10) 6 [(0, 59), (1, 60), (2, 61), (3, 62), (4, 63), (5, 64)] [.val (.pointer (some ⟨g1, 2, none⟩)), .val (.agg (c29 ti tn)), .val (.pointer (some ⟨p, 0, none⟩)), .val (.pointer (some ⟨p, 0, none⟩)), .val (.pointer (some ⟨p, 18, none⟩)), .val (.agg (c29 mi mn))] follows (by kernel_rfl) rfl ?hAx10 (opsA_cons ?o0x10 (opsA_cons ?o1x10 (opsA_cons ?o2x10 (opsA_cons ?o3x10 (opsA_cons ?o4x10 (opsA_cons ?o5x10 opsA_nil)))))) ?restx10
  case hAx10 =>
    intro ptrs
    simp only [full, foldSlots, filledE, postE, List.foldl_cons, List.foldl_nil, List.getD_cons_zero, List.getD_cons_succ, fill_val, List.set_cons_zero, List.set_cons_succ]
    exact rfl
  case o0x10 => exact fun _ _ hw _ => opE_value (v := .pointer (some ⟨g1, 2, none⟩)) rfl (run_fld 110 _ 1 rfl _ _ rfl _ (by kernel_rfl))
  case o1x10 => exact fun _ _ hw _ => opE_value (v := .agg (c29 ti tn)) rfl (run_lda 29 _ rfl g1 2 2 rfl 110 _ (hw.has kg1) _ Try.underlying29 rfl si29 (Nat.le_of_ble_eq_true rfl) _ (by kernel_rfl))
  case o2x10 => exact fun _ _ _ _ => opE_move (v := .pointer (some ⟨p, 0, none⟩)) _ rfl rfl rfl
  case o3x10 => exact fun _ _ hw _ => opE_value (v := .pointer (some ⟨p, 0, none⟩)) rfl (run_nc _ rfl _ rfl)
  case o4x10 => exact fun _ _ hw _ => opE_value (v := .pointer (some ⟨p, 18, none⟩)) rfl (run_fld 98 _ 3 rfl _ _ rfl _ (by kernel_rfl))
  case o5x10 => exact fun _ _ hw _ => opE_value (v := .agg (c29 mi mn)) rfl (run_lda 29 _ rfl p 18 2 rfl 98 _ (hw.has kp) _ Try.underlying29 rfl si29 (Nat.le_of_ble_eq_true rfl) _ (by kernel_rfl))
  intro ptrs w9 GD hxE
  simp only [List.drop_succ_cons, List.drop_zero]
  replace kp := GD.has kp
  replace kg1 := GD.has kg1
  replace kg2 := GD.has kg2
  replace kg3 := GD.has kg3
  replace HW2 := HW2.gro ((Gro.refl _).drew.trans GD)
  replace GG := GG.drew.tg GD
  clear GD
  refine s_val 65 rfl rfl (.bool false) (run_eqN _ _ _ rfl ti tn mi mn rfl rfl false (hs) _) ?_
  refine nr ?_; intro U h; simp only [z0, z1] at h; subst h
  refine s_val 9 rfl rfl (.bool false) (rfl) ?_
  refine nr ?_; intro U h; simp only [z0, z1] at h; subst h
  refine wpList_nil ?_
  refine then_n ?_
  refine wp_seq ?_
  refine wp_region_opq ?_
  intro OPS hY
  have y1 := hY 1 67 rfl
  clear hY
  refine s_val 66 rfl rfl (.bool false) (rfl) ?_
  refine nr ?_; intro U h; simp only [z0, z1] at h; subst h
  refine s_val 67 rfl rfl (.bool false) (rfl) ?_
  refine nr ?_; intro U h; simp only [z0, z1] at h; subst h
  refine s_skipY 68 rfl rfl y1 rfl ?_
  refine nr ?_; intro U h; simp only [z0, z1] at h; subst h
  refine s_skipY 69 rfl rfl y1 rfl ?_
  refine nr ?_; intro U h; simp only [z0, z1] at h; subst h
  refine s_val 70 rfl rfl (.bool false) (rfl) ?_
  refine nr ?_; intro U h; simp only [z0, z1] at h; subst h
  refine s_val 10 rfl rfl (.bool false) (rfl) ?_
  refine nr ?_; intro U h; simp only [z0, z1] at h; subst h
  refine wpList_nil ?_
  refine then_n ?_
  refine wp_seq ?_
  refine wp_seq ?_
  refine wp_region_opq ?_
  intro OPS hY
  have y1 := hY 1 72 rfl
  clear hY
  refine s_val 71 rfl rfl (.bool false) (rfl) ?_
  refine nr ?_; intro U h; simp only [z0, z1] at h; subst h
  refine s_val 72 rfl rfl (.bool false) (rfl) ?_
  refine nr ?_; intro U h; simp only [z0, z1] at h; subst h
  refine s_skipY 73 rfl rfl y1 rfl ?_
  refine nr ?_; intro U h; simp only [z0, z1] at h; subst h
  refine s_skipY 74 rfl rfl y1 rfl ?_
  refine nr ?_; intro U h; simp only [z0, z1] at h; subst h
  refine s_val 75 rfl rfl (.bool false) (rfl) ?_
  refine nr ?_; intro U h; simp only [z0, z1] at h; subst h
  refine wpList_nil ?_
  refine then_n ?_
  refine wp_cond_false rfl ?_
  refine wp_skip ?_
  refine then_n ?_
  refine wp_seq ?_
  refine wp_region_lit ?_
  refine s_val 80 rfl rfl (.bool false) (rfl) ?_
  refine nr ?_; intro U h; simp only [z0, z1] at h; subst h
  refine s_val 81 rfl rfl (.bool false) (rfl) ?_
  refine nr ?_; intro U h; simp only [z0, z1] at h; subst h
  refine s_val 82 rfl rfl (.pointer (some ⟨p, 0, none⟩)) (rfl) ?_
  refine nr ?_; intro U h; simp only [z0, z1] at h; subst h
  refine s_callx 83 rfl rfl _ 35 Try.call35 rfl rfl _ rfl [.pointer (some ⟨p, 0, none⟩)] rfl (greeting_any _ p wp2 w.heap.size id up false mi mn fi fn a none 0 [] 0 0 ⟨kp, HW2⟩) (fun _ _ ⟨_, _, _, _, _, he, _⟩ => ⟨_, he⟩) ?_
  rintro v w10 ⟨s1g, s2g, s3g, aog, capg, he, HVg, G⟩
  cases he
  replace kp := G.has kp
  replace kg1 := G.has kg1
  replace kg2 := G.has kg2
  replace kg3 := G.has kg3
  replace HW2 := HW2.gro G
  replace GG := GG.tg G
  clear G
  refine nr ?_; intro U h; simp only [z0, z1] at h; subst h
  refine s_bsl 84 rfl rfl 50 1 _ rfl [(0, .agg (c46 1 zF 0 false id zF 0 mi mn fi fn s1g s2g zF 0 zF s3g 0 0 ⟨aog, 0, capg⟩))] rfl (c46 1 zF 0 false id zF 0 mi mn fi fn s1g s2g zF 0 zF s3g 0 0 ⟨aog, 0, capg⟩) 46 (by kernel_rfl) ?_
  intro w11 g4 G eg4 kg4
  have bg4 := size_basS GG eg4
  have dpg4 := lt_new kp eg4
  have dg1g4 := lt_new kg1 eg4
  have dg2g4 := lt_new kg2 eg4
  have dg3g4 := lt_new kg3 eg4
  replace kp := G.has kp
  replace kg1 := G.has kg1
  replace kg2 := G.has kg2
  replace kg3 := G.has kg3
  replace HW2 := HW2.gro G
  replace HVg := HVg.gro G
  replace GG := GG.tg G
  clear G eg4
  refine nr ?_; intro U h; simp only [z0, z1] at h; subst h
  refine s_val 85 rfl rfl (.agg (c59 false false Sl.nil false ⟨some ⟨g4, 0, none⟩, 1, 1⟩)) (run_bd 59 _ rfl [(0, .bool false), (1, .bool false), (4, .slice (some ⟨g4, 0, none⟩) 1 1)] rfl _ (by kernel_rfl)) ?_
  refine nr ?_; intro U h; simp only [z0, z1] at h; subst h
  refine s_store rfl rfl 59 _ _ rfl g3 0 rfl (.agg (c59 false false Sl.nil false ⟨some ⟨g4, 0, none⟩, 1, 1⟩)) rfl 59 _ kg3 (c59 false false Sl.nil false ⟨some ⟨g4, 0, none⟩, 1, 1⟩) rfl (by kernel_rfl) (Nat.le_of_ble_eq_true rfl) (by kernel_rfl) (c59 false false Sl.nil false ⟨some ⟨g4, 0, none⟩, 1, 1⟩) (by kernel_rfl) ?_
  intro w13 St
  replace kp := St.has (by omega) kp
  replace kg1 := St.has (by omega) kg1
  replace kg2 := St.has (by omega) kg2
  replace kg4 := St.has (by omega) kg4
  replace HW2 := HW2.stT (by decide) (by decide) (by decide) kg3 St
  replace HVg := HVg.no5 ((GroS.refl [g3] _).st St (.inr (by simp))) (no5_one kg3 (by decide))
  replace GG := GG.st St (.inl bg3)
  replace kg3 := St.new
  clear St
  refine wpList_nil ?_
  refine then_n ?_
  refine wp_ret ?_
  refine bodyPost_ret (results_cell_row Try.results44 _ _ g3 59 _ (0, 0) _ rfl kg3 Try.underlying59 rfl (by kernel_rfl)) rfl ?_
  exact ⟨_, (p :: wp2 :: blk none), [], rfl, TV.one (f := pfr ⟨1, id, mi, mn, fi, fn, 0, []⟩ s1g s2g s3g ⟨aog, 0, capg⟩) kg4 HVg, ⟨wp2, _, none, 0, [], ⟨kp, HW2⟩, rfl, rfl, rfl⟩, GG.p1, Fresh.win hwp2, Fresh.nil0 _ _⟩
set_option maxRecDepth 100000 in
set_option maxHeartbeats 4000000 in
theorem greeted_anewopened (w : World) (p wp B : Nat) (id : Nat → Nat) (up : Bool) (mi mn pi pn : Int) (oth : Nat → Nat) (ro : Option Addr) (rc : Nat) (q : List RV) (k c : Nat) (H : EW w p wp B id up false mi mn pi pn oth ro rc q k c) (fi fn ti tn : Int) (a : Nat → Nat) (ni nn : Int) (hl : decide (cmpP fi fn pi pn < 0) = false) (hz : (decide (fi = 0) && decide (fn = 0)) = false) (hg : decide (0 < cmpP fi fn pi pn) = true) (hs : (decide (ti = mi) && decide (tn = mn)) = true) : Calls Try.prog 44 #[.pointer (some ⟨p, 0, none⟩), .agg (c110 fi fn ti tn a), .agg (c29 ni nn)] w (HearP w p id (p :: wp :: blk ro) (txb q) (⟨up, true, mi, mn, fi, fn, a, 0, [], 0⟩, ⟨false, true, [], false, [⟨1, id, mi, mn, fi, fn, 0, []⟩]⟩)) := by
  refine s_enter Try.func44 rfl Try.ntmps44 [.pointer (some ⟨p, 0, none⟩), .agg (c110 fi fn ti tn a), .agg (c29 ni nn)] [.pointer (some ⟨p, 0, none⟩), .agg (c110 fi fn ti tn a), .agg (c29 ni nn), undef, undef, undef, undef, undef, undef, undef, undef, undef, undef, undef, undef, undef, undef, undef, undef, undef, undef, undef, undef, undef, undef, undef, undef, undef, undef, undef, undef, undef, undef, undef, undef, undef, undef, undef, undef, undef, undef, undef, undef, undef, undef, undef, undef, undef, undef, undef, undef, undef, undef, undef, undef, undef, undef, undef, undef, undef, undef, undef, undef, undef, undef, undef, undef, undef, undef, undef, undef, undef, undef, undef, undef, undef, undef, undef, undef, undef, undef, undef, undef, undef, undef, undef] rfl ?_
  have GG := GroS.refl [p] w
  have kp := H.box
  have HW := H.win
  have hpl := lt_of_heap kp
  refine wp_seq ?_
  refine wp_region_lit ?_
  refine s_box 4 rfl rfl 110 _ rfl _ rfl (c110 fi fn ti tn a) rfl ?_
  intro w1 g1 G eg1 kg1
  have bg1 := size_basS GG eg1
  have dpg1 := lt_new kp eg1
  replace kp := G.has kp
  replace HW := HW.gro G
  replace GG := GG.tg G
  clear G eg1
  refine nr ?_; intro U h; simp only [z0, z1] at h; subst h
  refine s_box 5 rfl rfl 29 _ rfl _ rfl (c29 ni nn) rfl ?_
  intro w2 g2 G eg2 kg2
  have bg2 := size_basS GG eg2
  have dpg2 := lt_new kp eg2
  have dg1g2 := lt_new kg1 eg2
  replace kp := G.has kp
  replace kg1 := G.has kg1
  replace HW := HW.gro G
  replace GG := GG.tg G
  clear G eg2
  refine nr ?_; intro U h; simp only [z0, z1] at h; subst h
  refine s_alloc 6 rfl rfl 59 rfl _ zv59 _ rfl ?_
  intro w3 g3 G eg3 kg3
  have bg3 := size_basS GG eg3
  have dpg3 := lt_new kp eg3
  have dg1g3 := lt_new kg1 eg3
  have dg2g3 := lt_new kg2 eg3
  replace kp := G.has kp
  replace kg1 := G.has kg1
  replace kg2 := G.has kg2
  replace HW := HW.gro G
  replace GG := GG.tg G
  clear G eg3
  refine nr ?_; intro U h; simp only [z0, z1] at h; subst h
  refine wpList_nil ?_
  refine then_n ?_
  refine wp_seq ?_
  refine wp_region_exA (A := ?Ax11) 6 [(0, 11), (1, 12), (2, 13), (3, 14), (4, 15), (5, 16)] [.val (.pointer (some ⟨g1, 0, none⟩)), .val (.agg (c29 fi fn)), .val (.pointer (some ⟨p, 0, none⟩)), .val (.pointer (some ⟨p, 0, none⟩)), .val (.pointer (some ⟨p, 20, none⟩)), .val (.agg (c29 pi pn))] follows (by kernel_rfl) rfl ?hAx11 (opsA_cons ?o0x11 (opsA_cons ?o1x11 (opsA_cons ?o2x11 (opsA_cons ?o3x11 (opsA_cons ?o4x11 (opsA_cons ?o5x11 opsA_nil)))))) ?restx11
  case hAx11 =>
    intro ptrs
    simp only [full, foldSlots, filledE, postE, List.foldl_cons, List.foldl_nil, List.getD_cons_zero, List.getD_cons_succ, fill_val, List.set_cons_zero, List.set_cons_succ]
    exact rfl
  case o0x11 => exact fun _ _ hw _ => opE_value (v := .pointer (some ⟨g1, 0, none⟩)) rfl (run_fld 110 _ 0 rfl _ _ rfl _ (by kernel_rfl))
  case o1x11 => exact fun _ _ hw _ => opE_value (v := .agg (c29 fi fn)) rfl (run_lda 29 _ rfl g1 0 2 rfl 110 _ (hw.has kg1) _ Try.underlying29 rfl si29 (Nat.le_of_ble_eq_true rfl) _ (by kernel_rfl))
  case o2x11 => exact fun _ _ _ _ => opE_move (v := .pointer (some ⟨p, 0, none⟩)) _ rfl rfl rfl
  case o3x11 => exact fun _ _ hw _ => opE_value (v := .pointer (some ⟨p, 0, none⟩)) rfl (run_nc _ rfl _ rfl)
  case o4x11 => exact fun _ _ hw _ => opE_value (v := .pointer (some ⟨p, 20, none⟩)) rfl (run_fld 98 _ 4 rfl _ _ rfl _ (by kernel_rfl))
  case o5x11 => exact fun _ _ hw _ => opE_value (v := .agg (c29 pi pn)) rfl (run_lda 29 _ rfl p 20 2 rfl 98 _ (hw.has kp) _ Try.underlying29 rfl si29 (Nat.le_of_ble_eq_true rfl) _ (by kernel_rfl))
  intro ptrs w4 GD hxE
  simp only [List.drop_succ_cons, List.drop_zero]
  replace kp := GD.has kp
  replace kg1 := GD.has kg1
  replace kg2 := GD.has kg2
  replace kg3 := GD.has kg3
  replace HW := HW.gro ((Gro.refl _).drew.trans GD)
  replace GG := GG.drew.tg GD
  clear GD
  refine s_callv 17 rfl rfl _ 55 Try.call55 rfl rfl _ rfl [.agg (c29 fi fn), .agg (c29 pi pn)] rfl (compare_any _ fi fn pi pn) ?_
  intro w5 G
  replace kp := G.has kp
  replace kg1 := G.has kg1
  replace kg2 := G.has kg2
  replace kg3 := G.has kg3
  replace HW := HW.gro G
  replace GG := GG.tg G
  clear G
  refine nr ?_; intro U h; simp only [z0, z1] at h; subst h
  refine s_val 7 rfl rfl (.int .i64 (cmpP fi fn pi pn)) (rfl) ?_
  refine nr ?_; intro U h; simp only [z0, z1] at h; subst h
  refine wpList_nil ?_
  refine then_n ?_
  refine wp_seq ?_
  refine wp_seq ?_
  refine wp_region_opq ?_
  intro OPS hY
  have y2 := hY 2 20 rfl
  clear hY
  refine s_val 18 rfl rfl (.int .i64 (cmpP fi fn pi pn)) (rfl) ?_
  refine nr ?_; intro U h; simp only [z0, z1] at h; subst h
  refine s_val 19 rfl rfl (.bool false) (run_lssT 3 _ _ _ rfl (cmpP fi fn pi pn) 0 rfl rfl false hl _) ?_
  refine nr ?_; intro U h; simp only [z0, z1] at h; subst h
  refine s_val 20 rfl rfl (.bool false) (rfl) ?_
  refine nr ?_; intro U h; simp only [z0, z1] at h; subst h
  refine s_gvalY 21 rfl rfl y2 rfl (.pointer (some ⟨g1, 0, none⟩)) (run_fld 110 _ 0 rfl _ _ rfl _ (by kernel_rfl)) ?_
  refine nr ?_; intro U h; simp only [z0, z1] at h; subst h
  refine s_gvalY 22 rfl rfl y2 rfl (.agg (c29 fi fn)) (run_lda 29 _ rfl g1 0 2 rfl 110 _ kg1 _ Try.underlying29 rfl si29 (Nat.le_of_ble_eq_true rfl) _ (by kernel_rfl)) ?_
  refine nr ?_; intro U h; simp only [z0, z1] at h; subst h
  refine s_gvalY 23 rfl rfl y2 rfl (.agg (c29 0 0)) (run_bd 29 _ rfl [] rfl _ (by kernel_rfl)) ?_
  refine nr ?_; intro U h; simp only [z0, z1] at h; subst h
  refine s_gvalY 24 rfl rfl y2 rfl (.bool false) (run_eqN _ _ _ rfl fi fn 0 0 rfl rfl false (hz) _) ?_
  refine nr ?_; intro U h; simp only [z0, z1] at h; subst h
  refine s_val 25 rfl rfl (.bool false) (rfl) ?_
  refine nr ?_; intro U h; simp only [z0, z1] at h; subst h
  refine wpList_nil ?_
  refine then_n ?_
  refine wp_cond_false rfl ?_
  refine wp_skip ?_
  refine then_n ?_
  refine wp_seq ?_
  refine wp_region_opq ?_
  intro OPS hY
  have y2 := hY 2 29 rfl
  clear hY
  refine s_val 27 rfl rfl (.int .i64 (cmpP fi fn pi pn)) (rfl) ?_
  refine nr ?_; intro U h; simp only [z0, z1] at h; subst h
  refine s_val 28 rfl rfl (.bool true) (run_gtrT 3 _ _ _ rfl (cmpP fi fn pi pn) 0 rfl rfl true hg _) ?_
  refine nr ?_; intro U h; simp only [z0, z1] at h; subst h
  refine s_val 29 rfl rfl (.bool true) (rfl) ?_
  refine nr ?_; intro U h; simp only [z0, z1] at h; subst h
  refine s_gvalY 30 rfl rfl y2 rfl (.pointer (some ⟨p, 0, none⟩)) (rfl) ?_
  refine nr ?_; intro U h; simp only [z0, z1] at h; subst h
  refine s_gvalY 31 rfl rfl y2 rfl (.pointer (some ⟨p, 0, none⟩)) (run_nc _ rfl _ rfl) ?_
  refine nr ?_; intro U h; simp only [z0, z1] at h; subst h
  refine s_gvalY 32 rfl rfl y2 rfl (.pointer (some ⟨p, 17, none⟩)) (run_fld 98 _ 2 rfl _ _ rfl _ (by kernel_rfl)) ?_
  refine nr ?_; intro U h; simp only [z0, z1] at h; subst h
  refine s_gvalY 33 rfl rfl y2 rfl (.bool false) (run_ldc 4 _ rfl p 17 rfl 98 _ kp (na4 _) _ rfl) ?_
  refine nr ?_; intro U h; simp only [z0, z1] at h; subst h
  refine s_val 34 rfl rfl (.bool false) (rfl) ?_
  refine nr ?_; intro U h; simp only [z0, z1] at h; subst h
  refine s_val 8 rfl rfl (.bool false) (rfl) ?_
  refine nr ?_; intro U h; simp only [z0, z1] at h; subst h
  refine wpList_nil ?_
  refine then_n ?_
  refine wp_seq ?_
  refine wp_seq ?_
  refine wp_region_lit ?_
  refine s_val 35 rfl rfl (.bool false) (rfl) ?_
  refine nr ?_; intro U h; simp only [z0, z1] at h; subst h
  refine wpList_nil ?_
  refine then_n ?_
  refine wp_cond_false rfl ?_
  refine wp_skip ?_
  refine then_n ?_
  refine wp_seq ?_
  refine wp_seq ?_
  refine wp_region_lit ?_
  refine s_val 40 rfl rfl (.int .i64 (cmpP fi fn pi pn)) (rfl) ?_
  refine nr ?_; intro U h; simp only [z0, z1] at h; subst h
  refine s_val 41 rfl rfl (.bool true) (run_gtrT 3 _ _ _ rfl (cmpP fi fn pi pn) 0 rfl rfl true hg _) ?_
  refine nr ?_; intro U h; simp only [z0, z1] at h; subst h
  refine wpList_nil ?_
  refine then_n ?_
  refine wp_cond_true rfl ?_
  clear HW
  refine wp_region_pm (A := ?Ap2) (fun L x => GroS [p] w x ∧ x.heap[p]? = some (.cells (cond (L 17) (c98 id up false mi mn fi fn a (some ⟨wp, 0, none⟩)) (cond (L 14) (c98 id up false mi mn fi fn oth (some ⟨wp, 0, none⟩)) (cond (L 11) (c98 id up false mi mn pi pn oth (some ⟨wp, 0, none⟩)) (c98 id up false mi mn pi pn oth (some ⟨wp, 0, none⟩))))) 98 (0, 0)) ∧ x.heap[g1]? = some (.cells (c110 fi fn ti tn a) 110 (0, 0)) ∧ x.heap[g2]? = some (.cells (c29 ni nn) 29 (0, 0)) ∧ x.heap[g3]? = some (.cells (c59 false false Sl.nil false Sl.nil) 59 (0, 0))) 18 [(0, 42), (1, 43), (2, 44), (3, 45), (4, 46), (5, 47), (6, 48), (7, 49), (8, 50), (9, 51), (10, 52), (12, 53), (13, 54), (15, 55), (16, 56)] [.val (.pointer (some ⟨p, 0, none⟩)), .val (.pointer (some ⟨p, 0, none⟩)), .val (.pointer (some ⟨p, 0, none⟩)), .val (.pointer (some ⟨p, 0, none⟩)), .val (.pointer (some ⟨g1, 0, none⟩)), .val (.agg (c29 fi fn)), .val (.pointer (some ⟨g1, 4, none⟩)), .val (.agg (c23 a)), nwE w.heap.size, .val (.pointer (some ⟨p, 0, none⟩)), .val (.pointer (some ⟨p, 17, none⟩)), .val undef, .val (.pointer (some ⟨p, 0, none⟩)), .val (.pointer (some ⟨p, 20, none⟩)), .val undef, .val (.pointer (some ⟨p, 0, none⟩)), .val (.pointer (some ⟨p, 22, none⟩)), .val undef] [] [8] follows (by kernel_rfl) rfl (by kernel_rfl) (by decide) ⟨GG.drew, (Gro.refl _).drew.has kp, (Gro.refl _).drew.has kg1, (Gro.refl _).drew.has kg2, (Gro.refl _).drew.has kg3⟩ ?hAp2 (opsM_g (fun _ _ _ h _ G => ⟨h.1.tg G, G.has h.2.1, G.has h.2.2.1, G.has h.2.2.2.1, G.has h.2.2.2.2⟩) ?o0p2 (opsM_g (fun _ _ _ h _ G => ⟨h.1.tg G, G.has h.2.1, G.has h.2.2.1, G.has h.2.2.2.1, G.has h.2.2.2.2⟩) ?o1p2 (opsM_g (fun _ _ _ h _ G => ⟨h.1.tg G, G.has h.2.1, G.has h.2.2.1, G.has h.2.2.2.1, G.has h.2.2.2.2⟩) ?o2p2 (opsM_g (fun _ _ _ h _ G => ⟨h.1.tg G, G.has h.2.1, G.has h.2.2.1, G.has h.2.2.2.1, G.has h.2.2.2.2⟩) ?o3p2 (opsM_g (fun _ _ _ h _ G => ⟨h.1.tg G, G.has h.2.1, G.has h.2.2.1, G.has h.2.2.2.1, G.has h.2.2.2.2⟩) ?o4p2 (opsM_g (fun _ _ _ h _ G => ⟨h.1.tg G, G.has h.2.1, G.has h.2.2.1, G.has h.2.2.2.1, G.has h.2.2.2.2⟩) ?o5p2 (opsM_g (fun _ _ _ h _ G => ⟨h.1.tg G, G.has h.2.1, G.has h.2.2.1, G.has h.2.2.2.1, G.has h.2.2.2.2⟩) ?o6p2 (opsM_g (fun _ _ _ h _ G => ⟨h.1.tg G, G.has h.2.1, G.has h.2.2.1, G.has h.2.2.2.1, G.has h.2.2.2.2⟩) ?o7p2 (opsM_g (fun _ _ _ h _ G => ⟨h.1.tg G, G.has h.2.1, G.has h.2.2.1, G.has h.2.2.2.1, G.has h.2.2.2.2⟩) ?o8p2 (opsM_g (fun _ _ _ h _ G => ⟨h.1.tg G, G.has h.2.1, G.has h.2.2.1, G.has h.2.2.2.1, G.has h.2.2.2.2⟩) ?o9p2 (opsM_g (fun _ _ _ h _ G => ⟨h.1.tg G, G.has h.2.1, G.has h.2.2.1, G.has h.2.2.2.1, G.has h.2.2.2.2⟩) ?o10p2 (opsM_w ?o11p2 (opsM_g (fun _ _ _ h _ G => ⟨h.1.tg G, G.has h.2.1, G.has h.2.2.1, G.has h.2.2.2.1, G.has h.2.2.2.2⟩) ?o12p2 (opsM_g (fun _ _ _ h _ G => ⟨h.1.tg G, G.has h.2.1, G.has h.2.2.1, G.has h.2.2.2.1, G.has h.2.2.2.2⟩) ?o13p2 (opsM_w ?o14p2 (opsM_g (fun _ _ _ h _ G => ⟨h.1.tg G, G.has h.2.1, G.has h.2.2.1, G.has h.2.2.2.1, G.has h.2.2.2.2⟩) ?o15p2 (opsM_g (fun _ _ _ h _ G => ⟨h.1.tg G, G.has h.2.1, G.has h.2.2.1, G.has h.2.2.2.1, G.has h.2.2.2.2⟩) ?o16p2 (opsM_w ?o17p2 opsM_nil)))))))))))))))))) ?restp2
  case hAp2 =>
    intro ptrs
    simp only [full, foldSlots, filledE, postE, List.foldl_cons, List.foldl_nil, List.getD_cons_zero, List.getD_cons_succ, fill_val, fill_nw,  List.set_cons_zero, List.set_cons_succ]
    exact rfl
  case o0p2 => exact fun _ _ _ _ _ _ _ _ => opE_move (v := .pointer (some ⟨p, 0, none⟩)) _ rfl rfl rfl
  case o1p2 => exact fun _ _ _ _ _ _ _ _ => opE_move (v := .pointer (some ⟨p, 0, none⟩)) _ rfl rfl rfl
  case o2p2 => exact fun _ _ _ _ _ _ _ _ => opE_move (v := .pointer (some ⟨p, 0, none⟩)) _ rfl rfl rfl
  case o3p2 => exact fun _ _ _ _ _ _ _ _ => opE_move (v := .pointer (some ⟨p, 0, none⟩)) _ rfl rfl rfl
  case o4p2 => exact fun _ _ x hx _ _ _ _ => opE_value (v := .pointer (some ⟨g1, 0, none⟩)) rfl (run_fld 110 _ 0 rfl _ _ rfl _ (by kernel_rfl))
  case o5p2 => exact fun _ _ x hx _ _ _ _ => opE_value (v := .agg (c29 fi fn)) rfl (run_lda 29 _ rfl g1 0 2 rfl 110 _ hx.2.2.1 _ Try.underlying29 rfl si29 (Nat.le_of_ble_eq_true rfl) _ (by kernel_rfl))
  case o6p2 => exact fun _ _ x hx _ _ _ _ => opE_value (v := .pointer (some ⟨g1, 4, none⟩)) rfl (run_fld 110 _ 2 rfl _ _ rfl _ (by kernel_rfl))
  case o7p2 => exact fun _ _ x hx _ _ _ _ => opE_value (v := .agg (c23 a)) rfl (run_lda 23 _ rfl g1 4 16 rfl 110 _ hx.2.2.1 _ Try.underlying23 rfl si23 (Nat.le_of_ble_eq_true rfl) _ (by kernel_rfl))
  case o8p2 =>
    intro _ _ x hx _ _ _ _
    exact opE_call (nwE w.heap.size) rfl _ 34 Try.call34 rfl rfl _ rfl [] rfl ((new_any _).mono fun e w' ⟨g, he, hg, hz, hk⟩ => ⟨_, he, hg, g, rfl, Nat.le_trans hx.1.size hz, hk.base0 hx.1.size⟩)
  case o9p2 => exact fun _ _ x hx _ _ _ _ => opE_value (v := .pointer (some ⟨p, 0, none⟩)) rfl (run_nc _ rfl _ rfl)
  case o10p2 => exact fun _ _ x hx _ _ _ _ => opE_value (v := .pointer (some ⟨p, 17, none⟩)) rfl (run_fld 98 _ 2 rfl _ _ rfl _ (by kernel_rfl))
  case o11p2 =>
    intro L ptrs x hx hL hed hno _
    have hk := hx.2.1
    have h14 : L 14 = false := hno 14 (by kernel_rfl)
    have h17 : L 17 = false := hno 17 (by kernel_rfl)
    rw [h17, h14, hL] at hk
    replace hk : x.heap[p]? = some (.cells (c98 id up false mi mn pi pn oth (some ⟨wp, 0, none⟩)) 98 (0, 0)) := hk
    refine opX_store _ rfl 4 _ _ rfl p 17 rfl (.bool false) rfl 98 _ hk #[.bool false] rfl (by kernel_rfl) (Nat.le_of_ble_eq_true rfl) (by kernel_rfl) (c98 id up false mi mn pi pn oth (some ⟨wp, 0, none⟩)) (by kernel_rfl) ?_
    intro y St
    exact ⟨⟨⟨hx.1.st St (.inr (by simp)), (by rw [show upd L 11 17 = false from h17, show upd L 11 14 = false from h14]; exact St.new), St.has (by omega) hx.2.2.1, St.has (by omega) hx.2.2.2.1, St.has (by omega) hx.2.2.2.2⟩, StM.valsX [0, 1, 2, 3, 4, 5, 6, 7, 9, 10, 12, 13, 14, 15, 16, 17] [8] (by kernel_rfl) ⟨⟨_, rfl⟩, ⟨_, rfl⟩, ⟨_, rfl⟩, ⟨_, rfl⟩, ⟨_, rfl⟩, ⟨_, rfl⟩, ⟨_, rfl⟩, ⟨_, rfl⟩, ⟨_, rfl⟩, ⟨_, rfl⟩, ⟨_, rfl⟩, ⟨_, rfl⟩, ⟨_, rfl⟩, ⟨_, rfl⟩, ⟨_, rfl⟩, ⟨_, rfl⟩, trivial⟩ (fun j hj u hp => by cases List.mem_singleton.1 hj; obtain ⟨g, h1, h2, h3⟩ := hp; exact ⟨g, h1, h2, h3.stT (by decide) (by decide) (by decide) hk St⟩)⟩, rfl⟩
  case o12p2 => exact fun _ _ x hx _ _ _ _ => opE_value (v := .pointer (some ⟨p, 0, none⟩)) rfl (run_nc _ rfl _ rfl)
  case o13p2 => exact fun _ _ x hx _ _ _ _ => opE_value (v := .pointer (some ⟨p, 20, none⟩)) rfl (run_fld 98 _ 4 rfl _ _ rfl _ (by kernel_rfl))
  case o14p2 =>
    intro L ptrs x hx hL hed hno _
    have hk := hx.2.1
    have h11 : L 11 = true := hed 11 (by kernel_rfl)
    have h17 : L 17 = false := hno 17 (by kernel_rfl)
    rw [h17, hL, h11] at hk
    replace hk : x.heap[p]? = some (.cells (c98 id up false mi mn pi pn oth (some ⟨wp, 0, none⟩)) 98 (0, 0)) := hk
    refine opX_store _ rfl 29 _ _ rfl p 20 rfl (.agg (c29 fi fn)) rfl 98 _ hk (c29 fi fn) rfl (by kernel_rfl) (Nat.le_of_ble_eq_true rfl) (by kernel_rfl) (c98 id up false mi mn fi fn oth (some ⟨wp, 0, none⟩)) (by kernel_rfl) ?_
    intro y St
    exact ⟨⟨⟨hx.1.st St (.inr (by simp)), (by rw [show upd L 14 17 = false from h17]; exact St.new), St.has (by omega) hx.2.2.1, St.has (by omega) hx.2.2.2.1, St.has (by omega) hx.2.2.2.2⟩, StM.valsX [0, 1, 2, 3, 4, 5, 6, 7, 9, 10, 11, 12, 13, 15, 16, 17] [8] (by kernel_rfl) ⟨⟨_, rfl⟩, ⟨_, rfl⟩, ⟨_, rfl⟩, ⟨_, rfl⟩, ⟨_, rfl⟩, ⟨_, rfl⟩, ⟨_, rfl⟩, ⟨_, rfl⟩, ⟨_, rfl⟩, ⟨_, rfl⟩, ⟨_, rfl⟩, ⟨_, rfl⟩, ⟨_, rfl⟩, ⟨_, rfl⟩, ⟨_, rfl⟩, ⟨_, rfl⟩, trivial⟩ (fun j hj u hp => by cases List.mem_singleton.1 hj; obtain ⟨g, h1, h2, h3⟩ := hp; exact ⟨g, h1, h2, h3.stT (by decide) (by decide) (by decide) hk St⟩)⟩, rfl⟩
  case o15p2 => exact fun _ _ x hx _ _ _ _ => opE_value (v := .pointer (some ⟨p, 0, none⟩)) rfl (run_nc _ rfl _ rfl)
  case o16p2 => exact fun _ _ x hx _ _ _ _ => opE_value (v := .pointer (some ⟨p, 22, none⟩)) rfl (run_fld 98 _ 5 rfl _ _ rfl _ (by kernel_rfl))
  case o17p2 =>
    intro L ptrs x hx hL hed hno _
    have hk := hx.2.1
    have h11 : L 11 = true := hed 11 (by kernel_rfl)
    have h14 : L 14 = true := hed 14 (by kernel_rfl)
    rw [hL, h14, h11] at hk
    replace hk : x.heap[p]? = some (.cells (c98 id up false mi mn fi fn oth (some ⟨wp, 0, none⟩)) 98 (0, 0)) := hk
    refine opX_store _ rfl 23 _ _ rfl p 22 rfl (.agg (c23 a)) rfl 98 _ hk (c23 a) rfl (by kernel_rfl) (Nat.le_of_ble_eq_true rfl) (by kernel_rfl) (c98 id up false mi mn fi fn a (some ⟨wp, 0, none⟩)) (by kernel_rfl) ?_
    intro y St
    exact ⟨⟨⟨hx.1.st St (.inr (by simp)), St.new, St.has (by omega) hx.2.2.1, St.has (by omega) hx.2.2.2.1, St.has (by omega) hx.2.2.2.2⟩, StM.valsX [0, 1, 2, 3, 4, 5, 6, 7, 9, 10, 11, 12, 13, 14, 15, 16] [8] (by kernel_rfl) ⟨⟨_, rfl⟩, ⟨_, rfl⟩, ⟨_, rfl⟩, ⟨_, rfl⟩, ⟨_, rfl⟩, ⟨_, rfl⟩, ⟨_, rfl⟩, ⟨_, rfl⟩, ⟨_, rfl⟩, ⟨_, rfl⟩, ⟨_, rfl⟩, ⟨_, rfl⟩, ⟨_, rfl⟩, ⟨_, rfl⟩, ⟨_, rfl⟩, ⟨_, rfl⟩, trivial⟩ (fun j hj u hp => by cases List.mem_singleton.1 hj; obtain ⟨g, h1, h2, h3⟩ := hp; exact ⟨g, h1, h2, h3.stT (by decide) (by decide) (by decide) hk St⟩)⟩, rfl⟩
  intro ptrs w6 HJ hxE
  simp only [List.drop_succ_cons, List.drop_zero]
  clear GG kp kg1 kg2 kg3
  obtain ⟨GG, kp, kg1, kg2, kg3⟩ := HJ
  replace kp : w6.heap[p]? = some (.cells (c98 id up false mi mn fi fn a (some ⟨wp, 0, none⟩)) 98 (0, 0)) := kp
  obtain ⟨⟨wp2, hv, hwp2, HW2⟩, _⟩ := hxE
  simp only [hv]
  clear hv hxE
  refine s_val 57 rfl rfl (.pointer (some ⟨p, 0, none⟩)) (run_nc _ rfl _ rfl) ?_
  refine nr ?_; intro U h; simp only [z0, z1] at h; subst h
  refine s_val 58 rfl rfl (.pointer (some ⟨p, 38, none⟩)) (run_fld 98 _ 6 rfl _ _ rfl _ (by kernel_rfl)) ?_
  refine nr ?_; intro U h; simp only [z0, z1] at h; subst h
  refine s_store rfl rfl 95 _ _ rfl p 38 rfl (.pointer (some ⟨wp2, 0, none⟩)) rfl 98 _ kp #[.pointer (some ⟨wp2, 0, none⟩)] rfl (by kernel_rfl) (Nat.le_of_ble_eq_true rfl) (by kernel_rfl) (c98 id up false mi mn fi fn a (some ⟨wp2, 0, none⟩)) (by kernel_rfl) ?_
  intro w8 St
  replace kg1 := St.has (by omega) kg1
  replace kg2 := St.has (by omega) kg2
  replace kg3 := St.has (by omega) kg3
  replace HW2 := HW2.stT (by decide) (by decide) (by decide) kp St
  replace GG := GG.st St (.inr (by simp))
  replace kp := St.new
  clear St
  refine wpList_nil ?_
  refine then_n ?_
  refine wp_seq ?_
  refine wp_region_exA (A := ?Ax12) 6 [(0, 59), (1, 60), (2, 61), (3, 62), (4, 63), (5, 64)] [.val (.pointer (some ⟨g1, 2, none⟩)), .val (.agg (c29 ti tn)), .val (.pointer (some ⟨p, 0, none⟩)), .val (.pointer (some ⟨p, 0, none⟩)), .val (.pointer (some ⟨p, 18, none⟩)), .val (.agg (c29 mi mn))] follows (by kernel_rfl) rfl ?hAx12 (opsA_cons ?o0x12 (opsA_cons ?o1x12 (opsA_cons ?o2x12 (opsA_cons ?o3x12 (opsA_cons ?o4x12 (opsA_cons ?o5x12 opsA_nil)))))) ?restx12
  case hAx12 =>
    intro ptrs
    simp only [full, foldSlots, filledE, postE, List.foldl_cons, List.foldl_nil, List.getD_cons_zero, List.getD_cons_succ, fill_val, List.set_cons_zero, List.set_cons_succ]
    exact rfl
  case o0x12 => exact fun _ _ hw _ => opE_value (v := .pointer (some ⟨g1, 2, none⟩)) rfl (run_fld 110 _ 1 rfl _ _ rfl _ (by kernel_rfl))
  case o1x12 => exact fun _ _ hw _ => opE_value (v := .agg (c29 ti tn)) rfl (run_lda 29 _ rfl g1 2 2 rfl 110 _ (hw.has kg1) _ Try.underlying29 rfl si29 (Nat.le_of_ble_eq_true rfl) _ (by kernel_rfl))
  case o2x12 => exact fun _ _ _ _ => opE_move (v := .pointer (some ⟨p, 0, none⟩)) _ rfl rfl rfl
  case o3x12 => exact fun _ _ hw _ => opE_value (v := .pointer (some ⟨p, 0, none⟩)) rfl (run_nc _ rfl _ rfl)
  case o4x12 => exact fun _ _ hw _ => opE_value (v := .pointer (some ⟨p, 18, none⟩)) rfl (run_fld 98 _ 3 rfl _ _ rfl _ (by kernel_rfl))
  case o5x12 => exact fun _ _ hw _ => opE_value (v := .agg (c29 mi mn)) rfl (run_lda 29 _ rfl p 18 2 rfl 98 _ (hw.has kp) _ Try.underlying29 rfl si29 (Nat.le_of_ble_eq_true rfl) _ (by kernel_rfl))
  intro ptrs w9 GD hxE
  simp only [List.drop_succ_cons, List.drop_zero]
  replace kp := GD.has kp
  replace kg1 := GD.has kg1
  replace kg2 := GD.has kg2
  replace kg3 := GD.has kg3
  replace HW2 := HW2.gro ((Gro.refl _).drew.trans GD)
  replace GG := GG.drew.tg GD
  clear GD
  refine s_val 65 rfl rfl (.bool true) (run_eqN _ _ _ rfl ti tn mi mn rfl rfl true (hs) _) ?_
  refine nr ?_; intro U h; simp only [z0, z1] at h; subst h
  refine s_val 9 rfl rfl (.bool true) (rfl) ?_
  refine nr ?_; intro U h; simp only [z0, z1] at h; subst h
  refine wpList_nil ?_
  refine then_n ?_
  refine wp_seq ?_
  refine wp_region_opq ?_
  intro OPS hY
  have y1 := hY 1 67 rfl
  clear hY
  refine s_val 66 rfl rfl (.bool true) (rfl) ?_
  refine nr ?_; intro U h; simp only [z0, z1] at h; subst h
  refine s_val 67 rfl rfl (.bool true) (rfl) ?_
  refine nr ?_; intro U h; simp only [z0, z1] at h; subst h
  refine s_gvalY 68 rfl rfl y1 rfl (.pointer (some ⟨p, 0, none⟩)) (rfl) ?_
  refine nr ?_; intro U h; simp only [z0, z1] at h; subst h
  refine s_gcallxY 69 rfl rfl y1 rfl _ 56 Try.call56 rfl rfl _ rfl [.pointer (some ⟨p, 0, none⟩)] rfl (opens_any _ p wp2 w.heap.size id up false mi mn fi fn a none 0 [] 0 0 ⟨kp, HW2⟩) (fun _ _ ⟨he, _⟩ => ⟨_, he⟩) ?_
  rintro v w10 ⟨he, G, HE⟩
  cases he
  replace kg1 := G.has kg1 (by simp; omega)
  replace kg2 := G.has kg2 (by simp; omega)
  replace kg3 := G.has kg3 (by simp; omega)
  replace GG := GG.trans G
  clear kp HW2 G
  have kp := HE.box
  have HW2 := HE.win
  clear HE
  refine nr ?_; intro U h; simp only [z0, z1] at h; subst h
  refine s_val 70 rfl rfl (.bool true) (rfl) ?_
  refine nr ?_; intro U h; simp only [z0, z1] at h; subst h
  refine s_val 10 rfl rfl (.bool true) (rfl) ?_
  refine nr ?_; intro U h; simp only [z0, z1] at h; subst h
  refine wpList_nil ?_
  refine then_n ?_
  refine wp_seq ?_
  refine wp_seq ?_
  refine wp_region_opq ?_
  intro OPS hY
  have y1 := hY 1 72 rfl
  clear hY
  refine s_val 71 rfl rfl (.bool true) (rfl) ?_
  refine nr ?_; intro U h; simp only [z0, z1] at h; subst h
  refine s_val 72 rfl rfl (.bool true) (rfl) ?_
  refine nr ?_; intro U h; simp only [z0, z1] at h; subst h
  refine s_gvalY 73 rfl rfl y1 rfl (.bool true) (rfl) ?_
  refine nr ?_; intro U h; simp only [z0, z1] at h; subst h
  refine s_gvalY 74 rfl rfl y1 rfl (.bool false) (run_nt _ _ rfl true rfl) ?_
  refine nr ?_; intro U h; simp only [z0, z1] at h; subst h
  refine s_val 75 rfl rfl (.bool false) (rfl) ?_
  refine nr ?_; intro U h; simp only [z0, z1] at h; subst h
  refine wpList_nil ?_
  refine then_n ?_
  refine wp_cond_false rfl ?_
  refine wp_skip ?_
  refine then_n ?_
  refine wp_seq ?_
  refine wp_region_lit ?_
  refine s_val 80 rfl rfl (.bool false) (rfl) ?_
  refine nr ?_; intro U h; simp only [z0, z1] at h; subst h
  refine s_val 81 rfl rfl (.bool true) (rfl) ?_
  refine nr ?_; intro U h; simp only [z0, z1] at h; subst h
  refine s_val 82 rfl rfl (.pointer (some ⟨p, 0, none⟩)) (rfl) ?_
  refine nr ?_; intro U h; simp only [z0, z1] at h; subst h
  refine s_callx 83 rfl rfl _ 35 Try.call35 rfl rfl _ rfl [.pointer (some ⟨p, 0, none⟩)] rfl (greeting_any _ p wp2 w.heap.size id up true mi mn fi fn a none 0 [] 0 0 ⟨kp, HW2⟩) (fun _ _ ⟨_, _, _, _, _, he, _⟩ => ⟨_, he⟩) ?_
  rintro v w11 ⟨s1g, s2g, s3g, aog, capg, he, HVg, G⟩
  cases he
  replace kp := G.has kp
  replace kg1 := G.has kg1
  replace kg2 := G.has kg2
  replace kg3 := G.has kg3
  replace HW2 := HW2.gro G
  replace GG := GG.tg G
  clear G
  refine nr ?_; intro U h; simp only [z0, z1] at h; subst h
  refine s_bsl 84 rfl rfl 50 1 _ rfl [(0, .agg (c46 1 zF 0 false id zF 0 mi mn fi fn s1g s2g zF 0 zF s3g 0 0 ⟨aog, 0, capg⟩))] rfl (c46 1 zF 0 false id zF 0 mi mn fi fn s1g s2g zF 0 zF s3g 0 0 ⟨aog, 0, capg⟩) 46 (by kernel_rfl) ?_
  intro w12 g4 G eg4 kg4
  have bg4 := size_basS GG eg4
  have dpg4 := lt_new kp eg4
  have dg1g4 := lt_new kg1 eg4
  have dg2g4 := lt_new kg2 eg4
  have dg3g4 := lt_new kg3 eg4
  replace kp := G.has kp
  replace kg1 := G.has kg1
  replace kg2 := G.has kg2
  replace kg3 := G.has kg3
  replace HW2 := HW2.gro G
  replace HVg := HVg.gro G
  replace GG := GG.tg G
  clear G eg4
  refine nr ?_; intro U h; simp only [z0, z1] at h; subst h
  refine s_val 85 rfl rfl (.agg (c59 false true Sl.nil false ⟨some ⟨g4, 0, none⟩, 1, 1⟩)) (run_bd 59 _ rfl [(0, .bool false), (1, .bool true), (4, .slice (some ⟨g4, 0, none⟩) 1 1)] rfl _ (by kernel_rfl)) ?_
  refine nr ?_; intro U h; simp only [z0, z1] at h; subst h
  refine s_store rfl rfl 59 _ _ rfl g3 0 rfl (.agg (c59 false true Sl.nil false ⟨some ⟨g4, 0, none⟩, 1, 1⟩)) rfl 59 _ kg3 (c59 false true Sl.nil false ⟨some ⟨g4, 0, none⟩, 1, 1⟩) rfl (by kernel_rfl) (Nat.le_of_ble_eq_true rfl) (by kernel_rfl) (c59 false true Sl.nil false ⟨some ⟨g4, 0, none⟩, 1, 1⟩) (by kernel_rfl) ?_
  intro w14 St
  replace kp := St.has (by omega) kp
  replace kg1 := St.has (by omega) kg1
  replace kg2 := St.has (by omega) kg2
  replace kg4 := St.has (by omega) kg4
  replace HW2 := HW2.stT (by decide) (by decide) (by decide) kg3 St
  replace HVg := HVg.no5 ((GroS.refl [g3] _).st St (.inr (by simp))) (no5_one kg3 (by decide))
  replace GG := GG.st St (.inl bg3)
  replace kg3 := St.new
  clear St
  refine wpList_nil ?_
  refine then_n ?_
  refine wp_ret ?_
  refine bodyPost_ret (results_cell_row Try.results44 _ _ g3 59 _ (0, 0) _ rfl kg3 Try.underlying59 rfl (by kernel_rfl)) rfl ?_
  exact ⟨_, (p :: wp2 :: blk none), [], rfl, TV.one (f := pfr ⟨1, id, mi, mn, fi, fn, 0, []⟩ s1g s2g s3g ⟨aog, 0, capg⟩) kg4 HVg, ⟨wp2, _, none, 0, [], ⟨kp, HW2⟩, rfl, rfl, rfl⟩, GG.p1, Fresh.win hwp2, Fresh.nil0 _ _⟩
set_option maxRecDepth 100000 in
set_option maxHeartbeats 4000000 in
theorem greeted_died (w : World) (p wp B : Nat) (id : Nat → Nat) (up : Bool) (mi mn pi pn : Int) (oth : Nat → Nat) (ro : Option Addr) (rc : Nat) (q : List RV) (k c : Nat) (H : EW w p wp B id up true mi mn pi pn oth ro rc q k c) (fi fn ti tn : Int) (a : Nat → Nat) (ni nn : Int) (hl : decide (cmpP fi fn pi pn < 0) = false) (hz : (decide (fi = 0) && decide (fn = 0)) = false) (hg : decide (0 < cmpP fi fn pi pn) = true) (hs : (decide (ti = ni) && decide (tn = nn)) = false) : Calls Try.prog 44 #[.pointer (some ⟨p, 0, none⟩), .agg (c110 fi fn ti tn a), .agg (c29 ni nn)] w (HearP w p id (p :: wp :: blk ro) (txb q) (⟨up, false, ni, nn, fi, fn, a, 0, [], 0⟩, ⟨true, false, [], false, [⟨1, id, ni, nn, fi, fn, 0, []⟩]⟩)) := by
  refine s_enter Try.func44 rfl Try.ntmps44 [.pointer (some ⟨p, 0, none⟩), .agg (c110 fi fn ti tn a), .agg (c29 ni nn)] [.pointer (some ⟨p, 0, none⟩), .agg (c110 fi fn ti tn a), .agg (c29 ni nn), undef, undef, undef, undef, undef, undef, undef, undef, undef, undef, undef, undef, undef, undef, undef, undef, undef, undef, undef, undef, undef, undef, undef, undef, undef, undef, undef, undef, undef, undef, undef, undef, undef, undef, undef, undef, undef, undef, undef, undef, undef, undef, undef, undef, undef, undef, undef, undef, undef, undef, undef, undef, undef, undef, undef, undef, undef, undef, undef, undef, undef, undef, undef, undef, undef, undef, undef, undef, undef, undef, undef, undef, undef, undef, undef, undef, undef, undef, undef, undef, undef, undef, undef] rfl ?_
  have GG := GroS.refl [p] w
  have kp := H.box
  have HW := H.win
  have hpl := lt_of_heap kp
  refine wp_seq ?_
  refine wp_region_lit ?_
  refine s_box 4 rfl rfl 110 _ rfl _ rfl (c110 fi fn ti tn a) rfl ?_
  intro w1 g1 G eg1 kg1
  have bg1 := size_basS GG eg1
  have dpg1 := lt_new kp eg1
  replace kp := G.has kp
  replace HW := HW.gro G
  replace GG := GG.tg G
  clear G eg1
  refine nr ?_; intro U h; simp only [z0, z1] at h; subst h
  refine s_box 5 rfl rfl 29 _ rfl _ rfl (c29 ni nn) rfl ?_
  intro w2 g2 G eg2 kg2
  have bg2 := size_basS GG eg2
  have dpg2 := lt_new kp eg2
  have dg1g2 := lt_new kg1 eg2
  replace kp := G.has kp
  replace kg1 := G.has kg1
  replace HW := HW.gro G
  replace GG := GG.tg G
  clear G eg2
  refine nr ?_; intro U h; simp only [z0, z1] at h; subst h
  refine s_alloc 6 rfl rfl 59 rfl _ zv59 _ rfl ?_
  intro w3 g3 G eg3 kg3
  have bg3 := size_basS GG eg3
  have dpg3 := lt_new kp eg3
  have dg1g3 := lt_new kg1 eg3
  have dg2g3 := lt_new kg2 eg3
  replace kp := G.has kp
  replace kg1 := G.has kg1
  replace kg2 := G.has kg2
  replace HW := HW.gro G
  replace GG := GG.tg G
  clear G eg3
  refine nr ?_; intro U h; simp only [z0, z1] at h; subst h
  refine wpList_nil ?_
  refine then_n ?_
  refine wp_seq ?_
  refine wp_region_exA (A := ?Ax13) 6 [(0, 11), (1, 12), (2, 13), (3, 14), (4, 15), (5, 16)] [.val (.pointer (some ⟨g1, 0, none⟩)), .val (.agg (c29 fi fn)), .val (.pointer (some ⟨p, 0, none⟩)), .val (.pointer (some ⟨p, 0, none⟩)), .val (.pointer (some ⟨p, 20, none⟩)), .val (.agg (c29 pi pn))] follows (by kernel_rfl) rfl ?hAx13 (opsA_cons ?o0x13 (opsA_cons ?o1x13 (opsA_cons ?o2x13 (opsA_cons ?o3x13 (opsA_cons ?o4x13 (opsA_cons ?o5x13 opsA_nil)))))) ?restx13
  case hAx13 =>
    intro ptrs
    simp only [full, foldSlots, filledE, postE, List.foldl_cons, List.foldl_nil, List.getD_cons_zero, List.getD_cons_succ, fill_val, List.set_cons_zero, List.set_cons_succ]
    exact rfl
  case o0x13 => exact fun _ _ hw _ => opE_value (v := .pointer (some ⟨g1, 0, none⟩)) rfl (run_fld 110 _ 0 rfl _ _ rfl _ (by kernel_rfl))
  case o1x13 => exact fun _ _ hw _ => opE_value (v := .agg (c29 fi fn)) rfl (run_lda 29 _ rfl g1 0 2 rfl 110 _ (hw.has kg1) _ Try.underlying29 rfl si29 (Nat.le_of_ble_eq_true rfl) _ (by kernel_rfl))
  case o2x13 => exact fun _ _ _ _ => opE_move (v := .pointer (some ⟨p, 0, none⟩)) _ rfl rfl rfl
  case o3x13 => exact fun _ _ hw _ => opE_value (v := .pointer (some ⟨p, 0, none⟩)) rfl (run_nc _ rfl _ rfl)
  case o4x13 => exact fun _ _ hw _ => opE_value (v := .pointer (some ⟨p, 20, none⟩)) rfl (run_fld 98 _ 4 rfl _ _ rfl _ (by kernel_rfl))
  case o5x13 => exact fun _ _ hw _ => opE_value (v := .agg (c29 pi pn)) rfl (run_lda 29 _ rfl p 20 2 rfl 98 _ (hw.has kp) _ Try.underlying29 rfl si29 (Nat.le_of_ble_eq_true rfl) _ (by kernel_rfl))
  intro ptrs w4 GD hxE
  simp only [List.drop_succ_cons, List.drop_zero]
  replace kp := GD.has kp
  replace kg1 := GD.has kg1
  replace kg2 := GD.has kg2
  replace kg3 := GD.has kg3
  replace HW := HW.gro ((Gro.refl _).drew.trans GD)
  replace GG := GG.drew.tg GD
  clear GD
  refine s_callv 17 rfl rfl _ 55 Try.call55 rfl rfl _ rfl [.agg (c29 fi fn), .agg (c29 pi pn)] rfl (compare_any _ fi fn pi pn) ?_
  intro w5 G
  replace kp := G.has kp
  replace kg1 := G.has kg1
  replace kg2 := G.has kg2
  replace kg3 := G.has kg3
  replace HW := HW.gro G
  replace GG := GG.tg G
  clear G
  refine nr ?_; intro U h; simp only [z0, z1] at h; subst h
  refine s_val 7 rfl rfl (.int .i64 (cmpP fi fn pi pn)) (rfl) ?_
  refine nr ?_; intro U h; simp only [z0, z1] at h; subst h
  refine wpList_nil ?_
  refine then_n ?_
  refine wp_seq ?_
  refine wp_seq ?_
  refine wp_region_opq ?_
  intro OPS hY
  have y2 := hY 2 20 rfl
  clear hY
  refine s_val 18 rfl rfl (.int .i64 (cmpP fi fn pi pn)) (rfl) ?_
  refine nr ?_; intro U h; simp only [z0, z1] at h; subst h
  refine s_val 19 rfl rfl (.bool false) (run_lssT 3 _ _ _ rfl (cmpP fi fn pi pn) 0 rfl rfl false hl _) ?_
  refine nr ?_; intro U h; simp only [z0, z1] at h; subst h
  refine s_val 20 rfl rfl (.bool false) (rfl) ?_
  refine nr ?_; intro U h; simp only [z0, z1] at h; subst h
  refine s_gvalY 21 rfl rfl y2 rfl (.pointer (some ⟨g1, 0, none⟩)) (run_fld 110 _ 0 rfl _ _ rfl _ (by kernel_rfl)) ?_
  refine nr ?_; intro U h; simp only [z0, z1] at h; subst h
  refine s_gvalY 22 rfl rfl y2 rfl (.agg (c29 fi fn)) (run_lda 29 _ rfl g1 0 2 rfl 110 _ kg1 _ Try.underlying29 rfl si29 (Nat.le_of_ble_eq_true rfl) _ (by kernel_rfl)) ?_
  refine nr ?_; intro U h; simp only [z0, z1] at h; subst h
  refine s_gvalY 23 rfl rfl y2 rfl (.agg (c29 0 0)) (run_bd 29 _ rfl [] rfl _ (by kernel_rfl)) ?_
  refine nr ?_; intro U h; simp only [z0, z1] at h; subst h
  refine s_gvalY 24 rfl rfl y2 rfl (.bool false) (run_eqN _ _ _ rfl fi fn 0 0 rfl rfl false (hz) _) ?_
  refine nr ?_; intro U h; simp only [z0, z1] at h; subst h
  refine s_val 25 rfl rfl (.bool false) (rfl) ?_
  refine nr ?_; intro U h; simp only [z0, z1] at h; subst h
  refine wpList_nil ?_
  refine then_n ?_
  refine wp_cond_false rfl ?_
  refine wp_skip ?_
  refine then_n ?_
  refine wp_seq ?_
  refine wp_region_opq ?_
  intro OPS hY
  have y2 := hY 2 29 rfl
  clear hY
  refine s_val 27 rfl rfl (.int .i64 (cmpP fi fn pi pn)) (rfl) ?_
  refine nr ?_; intro U h; simp only [z0, z1] at h; subst h
  refine s_val 28 rfl rfl (.bool true) (run_gtrT 3 _ _ _ rfl (cmpP fi fn pi pn) 0 rfl rfl true hg _) ?_
  refine nr ?_; intro U h; simp only [z0, z1] at h; subst h
  refine s_val 29 rfl rfl (.bool true) (rfl) ?_
  refine nr ?_; intro U h; simp only [z0, z1] at h; subst h
  refine s_gvalY 30 rfl rfl y2 rfl (.pointer (some ⟨p, 0, none⟩)) (rfl) ?_
  refine nr ?_; intro U h; simp only [z0, z1] at h; subst h
  refine s_gvalY 31 rfl rfl y2 rfl (.pointer (some ⟨p, 0, none⟩)) (run_nc _ rfl _ rfl) ?_
  refine nr ?_; intro U h; simp only [z0, z1] at h; subst h
  refine s_gvalY 32 rfl rfl y2 rfl (.pointer (some ⟨p, 17, none⟩)) (run_fld 98 _ 2 rfl _ _ rfl _ (by kernel_rfl)) ?_
  refine nr ?_; intro U h; simp only [z0, z1] at h; subst h
  refine s_gvalY 33 rfl rfl y2 rfl (.bool true) (run_ldc 4 _ rfl p 17 rfl 98 _ kp (na4 _) _ rfl) ?_
  refine nr ?_; intro U h; simp only [z0, z1] at h; subst h
  refine s_val 34 rfl rfl (.bool true) (rfl) ?_
  refine nr ?_; intro U h; simp only [z0, z1] at h; subst h
  refine s_val 8 rfl rfl (.bool true) (rfl) ?_
  refine nr ?_; intro U h; simp only [z0, z1] at h; subst h
  refine wpList_nil ?_
  refine then_n ?_
  refine wp_seq ?_
  refine wp_seq ?_
  refine wp_region_lit ?_
  refine s_val 35 rfl rfl (.bool true) (rfl) ?_
  refine nr ?_; intro U h; simp only [z0, z1] at h; subst h
  refine wpList_nil ?_
  refine then_n ?_
  refine wp_cond_true rfl ?_
  refine wp_region_lit ?_
  refine s_val 36 rfl rfl (.pointer (some ⟨p, 0, none⟩)) (rfl) ?_
  refine nr ?_; intro U h; simp only [z0, z1] at h; subst h
  refine s_val 37 rfl rfl (.agg (c29 ni nn)) (run_lda 29 _ rfl g2 0 2 rfl 29 _ kg2 _ Try.underlying29 rfl si29 (Nat.le_of_ble_eq_true rfl) _ (by kernel_rfl)) ?_
  refine nr ?_; intro U h; simp only [z0, z1] at h; subst h
  refine s_val 38 rfl rfl (.pointer (some ⟨p, 0, none⟩)) (run_nc _ rfl _ rfl) ?_
  refine nr ?_; intro U h; simp only [z0, z1] at h; subst h
  refine s_val 39 rfl rfl (.pointer (some ⟨p, 18, none⟩)) (run_fld 98 _ 3 rfl _ _ rfl _ (by kernel_rfl)) ?_
  refine nr ?_; intro U h; simp only [z0, z1] at h; subst h
  refine s_store rfl rfl 29 _ _ rfl p 18 rfl (.agg (c29 ni nn)) rfl 98 _ kp (c29 ni nn) rfl (by kernel_rfl) (Nat.le_of_ble_eq_true rfl) (by kernel_rfl) (c98 id up true ni nn pi pn oth (some ⟨wp, 0, none⟩)) (by kernel_rfl) ?_
  intro w7 St
  replace kg1 := St.has (by omega) kg1
  replace kg2 := St.has (by omega) kg2
  replace kg3 := St.has (by omega) kg3
  replace HW := HW.stT (by decide) (by decide) (by decide) kp St
  replace GG := GG.st St (.inr (by simp))
  replace kp := St.new
  clear St
  refine wpList_nil ?_
  refine then_n ?_
  refine wp_seq ?_
  refine wp_seq ?_
  refine wp_region_lit ?_
  refine s_val 40 rfl rfl (.int .i64 (cmpP fi fn pi pn)) (rfl) ?_
  refine nr ?_; intro U h; simp only [z0, z1] at h; subst h
  refine s_val 41 rfl rfl (.bool true) (run_gtrT 3 _ _ _ rfl (cmpP fi fn pi pn) 0 rfl rfl true hg _) ?_
  refine nr ?_; intro U h; simp only [z0, z1] at h; subst h
  refine wpList_nil ?_
  refine then_n ?_
  refine wp_cond_true rfl ?_
  clear HW
  refine wp_region_pm (A := ?Ap3) (fun L x => GroS [p] w x ∧ x.heap[p]? = some (.cells (cond (L 17) (c98 id up false ni nn fi fn a (some ⟨wp, 0, none⟩)) (cond (L 14) (c98 id up false ni nn fi fn oth (some ⟨wp, 0, none⟩)) (cond (L 11) (c98 id up false ni nn pi pn oth (some ⟨wp, 0, none⟩)) (c98 id up true ni nn pi pn oth (some ⟨wp, 0, none⟩))))) 98 (0, 0)) ∧ x.heap[g1]? = some (.cells (c110 fi fn ti tn a) 110 (0, 0)) ∧ x.heap[g2]? = some (.cells (c29 ni nn) 29 (0, 0)) ∧ x.heap[g3]? = some (.cells (c59 false false Sl.nil false Sl.nil) 59 (0, 0))) 18 [(0, 42), (1, 43), (2, 44), (3, 45), (4, 46), (5, 47), (6, 48), (7, 49), (8, 50), (9, 51), (10, 52), (12, 53), (13, 54), (15, 55), (16, 56)] [.val (.pointer (some ⟨p, 0, none⟩)), .val (.pointer (some ⟨p, 0, none⟩)), .val (.pointer (some ⟨p, 0, none⟩)), .val (.pointer (some ⟨p, 0, none⟩)), .val (.pointer (some ⟨g1, 0, none⟩)), .val (.agg (c29 fi fn)), .val (.pointer (some ⟨g1, 4, none⟩)), .val (.agg (c23 a)), nwE w.heap.size, .val (.pointer (some ⟨p, 0, none⟩)), .val (.pointer (some ⟨p, 17, none⟩)), .val undef, .val (.pointer (some ⟨p, 0, none⟩)), .val (.pointer (some ⟨p, 20, none⟩)), .val undef, .val (.pointer (some ⟨p, 0, none⟩)), .val (.pointer (some ⟨p, 22, none⟩)), .val undef] [] [8] follows (by kernel_rfl) rfl (by kernel_rfl) (by decide) ⟨GG.drew, (Gro.refl _).drew.has kp, (Gro.refl _).drew.has kg1, (Gro.refl _).drew.has kg2, (Gro.refl _).drew.has kg3⟩ ?hAp3 (opsM_g (fun _ _ _ h _ G => ⟨h.1.tg G, G.has h.2.1, G.has h.2.2.1, G.has h.2.2.2.1, G.has h.2.2.2.2⟩) ?o0p3 (opsM_g (fun _ _ _ h _ G => ⟨h.1.tg G, G.has h.2.1, G.has h.2.2.1, G.has h.2.2.2.1, G.has h.2.2.2.2⟩) ?o1p3 (opsM_g (fun _ _ _ h _ G => ⟨h.1.tg G, G.has h.2.1, G.has h.2.2.1, G.has h.2.2.2.1, G.has h.2.2.2.2⟩) ?o2p3 (opsM_g (fun _ _ _ h _ G => ⟨h.1.tg G, G.has h.2.1, G.has h.2.2.1, G.has h.2.2.2.1, G.has h.2.2.2.2⟩) ?o3p3 (opsM_g (fun _ _ _ h _ G => ⟨h.1.tg G, G.has h.2.1, G.has h.2.2.1, G.has h.2.2.2.1, G.has h.2.2.2.2⟩) ?o4p3 (opsM_g (fun _ _ _ h _ G => ⟨h.1.tg G, G.has h.2.1, G.has h.2.2.1, G.has h.2.2.2.1, G.has h.2.2.2.2⟩) ?o5p3 (opsM_g (fun _ _ _ h _ G => ⟨h.1.tg G, G.has h.2.1, G.has h.2.2.1, G.has h.2.2.2.1, G.has h.2.2.2.2⟩) ?o6p3 (opsM_g (fun _ _ _ h _ G => ⟨h.1.tg G, G.has h.2.1, G.has h.2.2.1, G.has h.2.2.2.1, G.has h.2.2.2.2⟩) ?o7p3 (opsM_g (fun _ _ _ h _ G => ⟨h.1.tg G, G.has h.2.1, G.has h.2.2.1, G.has h.2.2.2.1, G.has h.2.2.2.2⟩) ?o8p3 (opsM_g (fun _ _ _ h _ G => ⟨h.1.tg G, G.has h.2.1, G.has h.2.2.1, G.has h.2.2.2.1, G.has h.2.2.2.2⟩) ?o9p3 (opsM_g (fun _ _ _ h _ G => ⟨h.1.tg G, G.has h.2.1, G.has h.2.2.1, G.has h.2.2.2.1, G.has h.2.2.2.2⟩) ?o10p3 (opsM_w ?o11p3 (opsM_g (fun _ _ _ h _ G => ⟨h.1.tg G, G.has h.2.1, G.has h.2.2.1, G.has h.2.2.2.1, G.has h.2.2.2.2⟩) ?o12p3 (opsM_g (fun _ _ _ h _ G => ⟨h.1.tg G, G.has h.2.1, G.has h.2.2.1, G.has h.2.2.2.1, G.has h.2.2.2.2⟩) ?o13p3 (opsM_w ?o14p3 (opsM_g (fun _ _ _ h _ G => ⟨h.1.tg G, G.has h.2.1, G.has h.2.2.1, G.has h.2.2.2.1, G.has h.2.2.2.2⟩) ?o15p3 (opsM_g (fun _ _ _ h _ G => ⟨h.1.tg G, G.has h.2.1, G.has h.2.2.1, G.has h.2.2.2.1, G.has h.2.2.2.2⟩) ?o16p3 (opsM_w ?o17p3 opsM_nil)))))))))))))))))) ?restp3
  case hAp3 =>
    intro ptrs
    simp only [full, foldSlots, filledE, postE, List.foldl_cons, List.foldl_nil, List.getD_cons_zero, List.getD_cons_succ, fill_val, fill_nw,  List.set_cons_zero, List.set_cons_succ]
    exact rfl
  case o0p3 => exact fun _ _ _ _ _ _ _ _ => opE_move (v := .pointer (some ⟨p, 0, none⟩)) _ rfl rfl rfl
  case o1p3 => exact fun _ _ _ _ _ _ _ _ => opE_move (v := .pointer (some ⟨p, 0, none⟩)) _ rfl rfl rfl
  case o2p3 => exact fun _ _ _ _ _ _ _ _ => opE_move (v := .pointer (some ⟨p, 0, none⟩)) _ rfl rfl rfl
  case o3p3 => exact fun _ _ _ _ _ _ _ _ => opE_move (v := .pointer (some ⟨p, 0, none⟩)) _ rfl rfl rfl
  case o4p3 => exact fun _ _ x hx _ _ _ _ => opE_value (v := .pointer (some ⟨g1, 0, none⟩)) rfl (run_fld 110 _ 0 rfl _ _ rfl _ (by kernel_rfl))
  case o5p3 => exact fun _ _ x hx _ _ _ _ => opE_value (v := .agg (c29 fi fn)) rfl (run_lda 29 _ rfl g1 0 2 rfl 110 _ hx.2.2.1 _ Try.underlying29 rfl si29 (Nat.le_of_ble_eq_true rfl) _ (by kernel_rfl))
  case o6p3 => exact fun _ _ x hx _ _ _ _ => opE_value (v := .pointer (some ⟨g1, 4, none⟩)) rfl (run_fld 110 _ 2 rfl _ _ rfl _ (by kernel_rfl))
  case o7p3 => exact fun _ _ x hx _ _ _ _ => opE_value (v := .agg (c23 a)) rfl (run_lda 23 _ rfl g1 4 16 rfl 110 _ hx.2.2.1 _ Try.underlying23 rfl si23 (Nat.le_of_ble_eq_true rfl) _ (by kernel_rfl))
  case o8p3 =>
    intro _ _ x hx _ _ _ _
    exact opE_call (nwE w.heap.size) rfl _ 34 Try.call34 rfl rfl _ rfl [] rfl ((new_any _).mono fun e w' ⟨g, he, hg, hz, hk⟩ => ⟨_, he, hg, g, rfl, Nat.le_trans hx.1.size hz, hk.base0 hx.1.size⟩)
  case o9p3 => exact fun _ _ x hx _ _ _ _ => opE_value (v := .pointer (some ⟨p, 0, none⟩)) rfl (run_nc _ rfl _ rfl)
  case o10p3 => exact fun _ _ x hx _ _ _ _ => opE_value (v := .pointer (some ⟨p, 17, none⟩)) rfl (run_fld 98 _ 2 rfl _ _ rfl _ (by kernel_rfl))
  case o11p3 =>
    intro L ptrs x hx hL hed hno _
    have hk := hx.2.1
    have h14 : L 14 = false := hno 14 (by kernel_rfl)
    have h17 : L 17 = false := hno 17 (by kernel_rfl)
    rw [h17, h14, hL] at hk
    replace hk : x.heap[p]? = some (.cells (c98 id up true ni nn pi pn oth (some ⟨wp, 0, none⟩)) 98 (0, 0)) := hk
    refine opX_store _ rfl 4 _ _ rfl p 17 rfl (.bool false) rfl 98 _ hk #[.bool false] rfl (by kernel_rfl) (Nat.le_of_ble_eq_true rfl) (by kernel_rfl) (c98 id up false ni nn pi pn oth (some ⟨wp, 0, none⟩)) (by kernel_rfl) ?_
    intro y St
    exact ⟨⟨⟨hx.1.st St (.inr (by simp)), (by rw [show upd L 11 17 = false from h17, show upd L 11 14 = false from h14]; exact St.new), St.has (by omega) hx.2.2.1, St.has (by omega) hx.2.2.2.1, St.has (by omega) hx.2.2.2.2⟩, StM.valsX [0, 1, 2, 3, 4, 5, 6, 7, 9, 10, 12, 13, 14, 15, 16, 17] [8] (by kernel_rfl) ⟨⟨_, rfl⟩, ⟨_, rfl⟩, ⟨_, rfl⟩, ⟨_, rfl⟩, ⟨_, rfl⟩, ⟨_, rfl⟩, ⟨_, rfl⟩, ⟨_, rfl⟩, ⟨_, rfl⟩, ⟨_, rfl⟩, ⟨_, rfl⟩, ⟨_, rfl⟩, ⟨_, rfl⟩, ⟨_, rfl⟩, ⟨_, rfl⟩, ⟨_, rfl⟩, trivial⟩ (fun j hj u hp => by cases List.mem_singleton.1 hj; obtain ⟨g, h1, h2, h3⟩ := hp; exact ⟨g, h1, h2, h3.stT (by decide) (by decide) (by decide) hk St⟩)⟩, rfl⟩
  case o12p3 => exact fun _ _ x hx _ _ _ _ => opE_value (v := .pointer (some ⟨p, 0, none⟩)) rfl (run_nc _ rfl _ rfl)
  case o13p3 => exact fun _ _ x hx _ _ _ _ => opE_value (v := .pointer (some ⟨p, 20, none⟩)) rfl (run_fld 98 _ 4 rfl _ _ rfl _ (by kernel_rfl))
  case o14p3 =>
    intro L ptrs x hx hL hed hno _
    have hk := hx.2.1
    have h11 : L 11 = true := hed 11 (by kernel_rfl)
    have h17 : L 17 = false := hno 17 (by kernel_rfl)
    rw [h17, hL, h11] at hk
    replace hk : x.heap[p]? = some (.cells (c98 id up false ni nn pi pn oth (some ⟨wp, 0, none⟩)) 98 (0, 0)) := hk
    refine opX_store _ rfl 29 _ _ rfl p 20 rfl (.agg (c29 fi fn)) rfl 98 _ hk (c29 fi fn) rfl (by kernel_rfl) (Nat.le_of_ble_eq_true rfl) (by kernel_rfl) (c98 id up false ni nn fi fn oth (some ⟨wp, 0, none⟩)) (by kernel_rfl) ?_
    intro y St
    exact ⟨⟨⟨hx.1.st St (.inr (by simp)), (by rw [show upd L 14 17 = false from h17]; exact St.new), St.has (by omega) hx.2.2.1, St.has (by omega) hx.2.2.2.1, St.has (by omega) hx.2.2.2.2⟩, StM.valsX [0, 1, 2, 3, 4, 5, 6, 7, 9, 10, 11, 12, 13, 15, 16, 17] [8] (by kernel_rfl) ⟨⟨_, rfl⟩, ⟨_, rfl⟩, ⟨_, rfl⟩, ⟨_, rfl⟩, ⟨_, rfl⟩, ⟨_, rfl⟩, ⟨_, rfl⟩, ⟨_, rfl⟩, ⟨_, rfl⟩, ⟨_, rfl⟩, ⟨_, rfl⟩, ⟨_, rfl⟩, ⟨_, rfl⟩, ⟨_, rfl⟩, ⟨_, rfl⟩, ⟨_, rfl⟩, trivial⟩ (fun j hj u hp => by cases List.mem_singleton.1 hj; obtain ⟨g, h1, h2, h3⟩ := hp; exact ⟨g, h1, h2, h3.stT (by decide) (by decide) (by decide) hk St⟩)⟩, rfl⟩
  case o15p3 => exact fun _ _ x hx _ _ _ _ => opE_value (v := .pointer (some ⟨p, 0, none⟩)) rfl (run_nc _ rfl _ rfl)
  case o16p3 => exact fun _ _ x hx _ _ _ _ => opE_value (v := .pointer (some ⟨p, 22, none⟩)) rfl (run_fld 98 _ 5 rfl _ _ rfl _ (by kernel_rfl))
  case o17p3 =>
    intro L ptrs x hx hL hed hno _
    have hk := hx.2.1
    have h11 : L 11 = true := hed 11 (by kernel_rfl)
    have h14 : L 14 = true := hed 14 (by kernel_rfl)
    rw [hL, h14, h11] at hk
    replace hk : x.heap[p]? = some (.cells (c98 id up false ni nn fi fn oth (some ⟨wp, 0, none⟩)) 98 (0, 0)) := hk
    refine opX_store _ rfl 23 _ _ rfl p 22 rfl (.agg (c23 a)) rfl 98 _ hk (c23 a) rfl (by kernel_rfl) (Nat.le_of_ble_eq_true rfl) (by kernel_rfl) (c98 id up false ni nn fi fn a (some ⟨wp, 0, none⟩)) (by kernel_rfl) ?_
    intro y St
    exact ⟨⟨⟨hx.1.st St (.inr (by simp)), St.new, St.has (by omega) hx.2.2.1, St.has (by omega) hx.2.2.2.1, St.has (by omega) hx.2.2.2.2⟩, StM.valsX [0, 1, 2, 3, 4, 5, 6, 7, 9, 10, 11, 12, 13, 14, 15, 16] [8] (by kernel_rfl) ⟨⟨_, rfl⟩, ⟨_, rfl⟩, ⟨_, rfl⟩, ⟨_, rfl⟩, ⟨_, rfl⟩, ⟨_, rfl⟩, ⟨_, rfl⟩, ⟨_, rfl⟩, ⟨_, rfl⟩, ⟨_, rfl⟩, ⟨_, rfl⟩, ⟨_, rfl⟩, ⟨_, rfl⟩, ⟨_, rfl⟩, ⟨_, rfl⟩, ⟨_, rfl⟩, trivial⟩ (fun j hj u hp => by cases List.mem_singleton.1 hj; obtain ⟨g, h1, h2, h3⟩ := hp; exact ⟨g, h1, h2, h3.stT (by decide) (by decide) (by decide) hk St⟩)⟩, rfl⟩
  intro ptrs w8 HJ hxE
  simp only [List.drop_succ_cons, List.drop_zero]
  clear GG kp kg1 kg2 kg3
  obtain ⟨GG, kp, kg1, kg2, kg3⟩ := HJ
  replace kp : w8.heap[p]? = some (.cells (c98 id up false ni nn fi fn a (some ⟨wp, 0, none⟩)) 98 (0, 0)) := kp
  obtain ⟨⟨wp2, hv, hwp2, HW2⟩, _⟩ := hxE
  simp only [hv]
  clear hv hxE
  refine s_val 57 rfl rfl (.pointer (some ⟨p, 0, none⟩)) (run_nc _ rfl _ rfl) ?_
  refine nr ?_; intro U h; simp only [z0, z1] at h; subst h
  refine s_val 58 rfl rfl (.pointer (some ⟨p, 38, none⟩)) (run_fld 98 _ 6 rfl _ _ rfl _ (by kernel_rfl)) ?_
  refine nr ?_; intro U h; simp only [z0, z1] at h; subst h
  refine s_store rfl rfl 95 _ _ rfl p 38 rfl (.pointer (some ⟨wp2, 0, none⟩)) rfl 98 _ kp #[.pointer (some ⟨wp2, 0, none⟩)] rfl (by kernel_rfl) (Nat.le_of_ble_eq_true rfl) (by kernel_rfl) (c98 id up false ni nn fi fn a (some ⟨wp2, 0, none⟩)) (by kernel_rfl) ?_
  intro w10 St
  replace kg1 := St.has (by omega) kg1
  replace kg2 := St.has (by omega) kg2
  replace kg3 := St.has (by omega) kg3
  replace HW2 := HW2.stT (by decide) (by decide) (by decide) kp St
  replace GG := GG.st St (.inr (by simp))
  replace kp := St.new
  clear St
  refine wpList_nil ?_
  refine then_n ?_
  refine wp_seq ?_
  refine wp_region_exA (A := ?Ax14) 6 [(0, 59), (1, 60), (2, 61), (3, 62), (4, 63), (5, 64)] [.val (.pointer (some ⟨g1, 2, none⟩)), .val (.agg (c29 ti tn)), .val (.pointer (some ⟨p, 0, none⟩)), .val (.pointer (some ⟨p, 0, none⟩)), .val (.pointer (some ⟨p, 18, none⟩)), .val (.agg (c29 ni nn))] follows (by kernel_rfl) rfl ?hAx14 (opsA_cons ?o0x14 (opsA_cons ?o1x14 (opsA_cons ?o2x14 (opsA_cons ?o3x14 (opsA_cons ?o4x14 (opsA_cons ?o5x14 opsA_nil)))))) ?restx14
  case hAx14 =>
    intro ptrs
    simp only [full, foldSlots, filledE, postE, List.foldl_cons, List.foldl_nil, List.getD_cons_zero, List.getD_cons_succ, fill_val, List.set_cons_zero, List.set_cons_succ]
    exact rfl
  case o0x14 => exact fun _ _ hw _ => opE_value (v := .pointer (some ⟨g1, 2, none⟩)) rfl (run_fld 110 _ 1 rfl _ _ rfl _ (by kernel_rfl))
  case o1x14 => exact fun _ _ hw _ => opE_value (v := .agg (c29 ti tn)) rfl (run_lda 29 _ rfl g1 2 2 rfl 110 _ (hw.has kg1) _ Try.underlying29 rfl si29 (Nat.le_of_ble_eq_true rfl) _ (by kernel_rfl))
  case o2x14 => exact fun _ _ _ _ => opE_move (v := .pointer (some ⟨p, 0, none⟩)) _ rfl rfl rfl
  case o3x14 => exact fun _ _ hw _ => opE_value (v := .pointer (some ⟨p, 0, none⟩)) rfl (run_nc _ rfl _ rfl)
  case o4x14 => exact fun _ _ hw _ => opE_value (v := .pointer (some ⟨p, 18, none⟩)) rfl (run_fld 98 _ 3 rfl _ _ rfl _ (by kernel_rfl))
  case o5x14 => exact fun _ _ hw _ => opE_value (v := .agg (c29 ni nn)) rfl (run_lda 29 _ rfl p 18 2 rfl 98 _ (hw.has kp) _ Try.underlying29 rfl si29 (Nat.le_of_ble_eq_true rfl) _ (by kernel_rfl))
  intro ptrs w11 GD hxE
  simp only [List.drop_succ_cons, List.drop_zero]
  replace kp := GD.has kp
  replace kg1 := GD.has kg1
  replace kg2 := GD.has kg2
  replace kg3 := GD.has kg3
  replace HW2 := HW2.gro ((Gro.refl _).drew.trans GD)
  replace GG := GG.drew.tg GD
  clear GD
  refine s_val 65 rfl rfl (.bool false) (run_eqN _ _ _ rfl ti tn ni nn rfl rfl false (hs) _) ?_
  refine nr ?_; intro U h; simp only [z0, z1] at h; subst h
  refine s_val 9 rfl rfl (.bool false) (rfl) ?_
  refine nr ?_; intro U h; simp only [z0, z1] at h; subst h
  refine wpList_nil ?_
  refine then_n ?_
  refine wp_seq ?_
  refine wp_region_opq ?_
  intro OPS hY
  have y1 := hY 1 67 rfl
  clear hY
  refine s_val 66 rfl rfl (.bool false) (rfl) ?_
  refine nr ?_; intro U h; simp only [z0, z1] at h; subst h
  refine s_val 67 rfl rfl (.bool false) (rfl) ?_
  refine nr ?_; intro U h; simp only [z0, z1] at h; subst h
  refine s_skipY 68 rfl rfl y1 rfl ?_
  refine nr ?_; intro U h; simp only [z0, z1] at h; subst h
  refine s_skipY 69 rfl rfl y1 rfl ?_
  refine nr ?_; intro U h; simp only [z0, z1] at h; subst h
  refine s_val 70 rfl rfl (.bool false) (rfl) ?_
  refine nr ?_; intro U h; simp only [z0, z1] at h; subst h
  refine s_val 10 rfl rfl (.bool false) (rfl) ?_
  refine nr ?_; intro U h; simp only [z0, z1] at h; subst h
  refine wpList_nil ?_
  refine then_n ?_
  refine wp_seq ?_
  refine wp_seq ?_
  refine wp_region_opq ?_
  intro OPS hY
  have y1 := hY 1 72 rfl
  clear hY
  refine s_val 71 rfl rfl (.bool false) (rfl) ?_
  refine nr ?_; intro U h; simp only [z0, z1] at h; subst h
  refine s_val 72 rfl rfl (.bool false) (rfl) ?_
  refine nr ?_; intro U h; simp only [z0, z1] at h; subst h
  refine s_skipY 73 rfl rfl y1 rfl ?_
  refine nr ?_; intro U h; simp only [z0, z1] at h; subst h
  refine s_skipY 74 rfl rfl y1 rfl ?_
  refine nr ?_; intro U h; simp only [z0, z1] at h; subst h
  refine s_val 75 rfl rfl (.bool false) (rfl) ?_
  refine nr ?_; intro U h; simp only [z0, z1] at h; subst h
  refine wpList_nil ?_
  refine then_n ?_
  refine wp_cond_false rfl ?_
  refine wp_skip ?_
  refine then_n ?_
  refine wp_seq ?_
  refine wp_region_lit ?_
  refine s_val 80 rfl rfl (.bool true) (rfl) ?_
  refine nr ?_; intro U h; simp only [z0, z1] at h; subst h
  refine s_val 81 rfl rfl (.bool false) (rfl) ?_
  refine nr ?_; intro U h; simp only [z0, z1] at h; subst h
  refine s_val 82 rfl rfl (.pointer (some ⟨p, 0, none⟩)) (rfl) ?_
  refine nr ?_; intro U h; simp only [z0, z1] at h; subst h
  refine s_callx 83 rfl rfl _ 35 Try.call35 rfl rfl _ rfl [.pointer (some ⟨p, 0, none⟩)] rfl (greeting_any _ p wp2 w.heap.size id up false ni nn fi fn a none 0 [] 0 0 ⟨kp, HW2⟩) (fun _ _ ⟨_, _, _, _, _, he, _⟩ => ⟨_, he⟩) ?_
  rintro v w12 ⟨s1g, s2g, s3g, aog, capg, he, HVg, G⟩
  cases he
  replace kp := G.has kp
  replace kg1 := G.has kg1
  replace kg2 := G.has kg2
  replace kg3 := G.has kg3
  replace HW2 := HW2.gro G
  replace GG := GG.tg G
  clear G
  refine nr ?_; intro U h; simp only [z0, z1] at h; subst h
  refine s_bsl 84 rfl rfl 50 1 _ rfl [(0, .agg (c46 1 zF 0 false id zF 0 ni nn fi fn s1g s2g zF 0 zF s3g 0 0 ⟨aog, 0, capg⟩))] rfl (c46 1 zF 0 false id zF 0 ni nn fi fn s1g s2g zF 0 zF s3g 0 0 ⟨aog, 0, capg⟩) 46 (by kernel_rfl) ?_
  intro w13 g4 G eg4 kg4
  have bg4 := size_basS GG eg4
  have dpg4 := lt_new kp eg4
  have dg1g4 := lt_new kg1 eg4
  have dg2g4 := lt_new kg2 eg4
  have dg3g4 := lt_new kg3 eg4
  replace kp := G.has kp
  replace kg1 := G.has kg1
  replace kg2 := G.has kg2
  replace kg3 := G.has kg3
  replace HW2 := HW2.gro G
  replace HVg := HVg.gro G
  replace GG := GG.tg G
  clear G eg4
  refine nr ?_; intro U h; simp only [z0, z1] at h; subst h
  refine s_val 85 rfl rfl (.agg (c59 true false Sl.nil false ⟨some ⟨g4, 0, none⟩, 1, 1⟩)) (run_bd 59 _ rfl [(0, .bool true), (1, .bool false), (4, .slice (some ⟨g4, 0, none⟩) 1 1)] rfl _ (by kernel_rfl)) ?_
  refine nr ?_; intro U h; simp only [z0, z1] at h; subst h
  refine s_store rfl rfl 59 _ _ rfl g3 0 rfl (.agg (c59 true false Sl.nil false ⟨some ⟨g4, 0, none⟩, 1, 1⟩)) rfl 59 _ kg3 (c59 true false Sl.nil false ⟨some ⟨g4, 0, none⟩, 1, 1⟩) rfl (by kernel_rfl) (Nat.le_of_ble_eq_true rfl) (by kernel_rfl) (c59 true false Sl.nil false ⟨some ⟨g4, 0, none⟩, 1, 1⟩) (by kernel_rfl) ?_
  intro w15 St
  replace kp := St.has (by omega) kp
  replace kg1 := St.has (by omega) kg1
  replace kg2 := St.has (by omega) kg2
  replace kg4 := St.has (by omega) kg4
  replace HW2 := HW2.stT (by decide) (by decide) (by decide) kg3 St
  replace HVg := HVg.no5 ((GroS.refl [g3] _).st St (.inr (by simp))) (no5_one kg3 (by decide))
  replace GG := GG.st St (.inl bg3)
  replace kg3 := St.new
  clear St
  refine wpList_nil ?_
  refine then_n ?_
  refine wp_ret ?_
  refine bodyPost_ret (results_cell_row Try.results44 _ _ g3 59 _ (0, 0) _ rfl kg3 Try.underlying59 rfl (by kernel_rfl)) rfl ?_
  exact ⟨_, (p :: wp2 :: blk none), [], rfl, TV.one (f := pfr ⟨1, id, ni, nn, fi, fn, 0, []⟩ s1g s2g s3g ⟨aog, 0, capg⟩) kg4 HVg, ⟨wp2, _, none, 0, [], ⟨kp, HW2⟩, rfl, rfl, rfl⟩, GG.p1, Fresh.win hwp2, Fresh.nil0 _ _⟩
set_option maxRecDepth 100000 in
set_option maxHeartbeats 4000000 in
theorem greeted_diedopened (w : World) (p wp B : Nat) (id : Nat → Nat) (up : Bool) (mi mn pi pn : Int) (oth : Nat → Nat) (ro : Option Addr) (rc : Nat) (q : List RV) (k c : Nat) (H : EW w p wp B id up true mi mn pi pn oth ro rc q k c) (fi fn ti tn : Int) (a : Nat → Nat) (ni nn : Int) (hl : decide (cmpP fi fn pi pn < 0) = false) (hz : (decide (fi = 0) && decide (fn = 0)) = false) (hg : decide (0 < cmpP fi fn pi pn) = true) (hs : (decide (ti = ni) && decide (tn = nn)) = true) : Calls Try.prog 44 #[.pointer (some ⟨p, 0, none⟩), .agg (c110 fi fn ti tn a), .agg (c29 ni nn)] w (HearP w p id (p :: wp :: blk ro) (txb q) (⟨up, true, ni, nn, fi, fn, a, 0, [], 0⟩, ⟨true, true, [], false, [⟨1, id, ni, nn, fi, fn, 0, []⟩]⟩)) := by
  refine s_enter Try.func44 rfl Try.ntmps44 [.pointer (some ⟨p, 0, none⟩), .agg (c110 fi fn ti tn a), .agg (c29 ni nn)] [.pointer (some ⟨p, 0, none⟩), .agg (c110 fi fn ti tn a), .agg (c29 ni nn), undef, undef, undef, undef, undef, undef, undef, undef, undef, undef, undef, undef, undef, undef, undef, undef, undef, undef, undef, undef, undef, undef, undef, undef, undef, undef, undef, undef, undef, undef, undef, undef, undef, undef, undef, undef, undef, undef, undef, undef, undef, undef, undef, undef, undef, undef, undef, undef, undef, undef, undef, undef, undef, undef, undef, undef, undef, undef, undef, undef, undef, undef, undef, undef, undef, undef, undef, undef, undef, undef, undef, undef, undef, undef, undef, undef, undef, undef, undef, undef, undef, undef, undef] rfl ?_
  have GG := GroS.refl [p] w
  have kp := H.box
  have HW := H.win
  have hpl := lt_of_heap kp
  refine wp_seq ?_
  refine wp_region_lit ?_
  refine s_box 4 rfl rfl 110 _ rfl _ rfl (c110 fi fn ti tn a) rfl ?_
  intro w1 g1 G eg1 kg1
  have bg1 := size_basS GG eg1
  have dpg1 := lt_new kp eg1
  replace kp := G.has kp
  replace HW := HW.gro G
  replace GG := GG.tg G
  clear G eg1
  refine nr ?_; intro U h; simp only [z0, z1] at h; subst h
  refine s_box 5 rfl rfl 29 _ rfl _ rfl (c29 ni nn) rfl ?_
  intro w2 g2 G eg2 kg2
  have bg2 := size_basS GG eg2
  have dpg2 := lt_new kp eg2
  have dg1g2 := lt_new kg1 eg2
  replace kp := G.has kp
  replace kg1 := G.has kg1
  replace HW := HW.gro G
  replace GG := GG.tg G
  clear G eg2
  refine nr ?_; intro U h; simp only [z0, z1] at h; subst h
  refine s_alloc 6 rfl rfl 59 rfl _ zv59 _ rfl ?_
  intro w3 g3 G eg3 kg3
  have bg3 := size_basS GG eg3
  have dpg3 := lt_new kp eg3
  have dg1g3 := lt_new kg1 eg3
  have dg2g3 := lt_new kg2 eg3
  replace kp := G.has kp
  replace kg1 := G.has kg1
  replace kg2 := G.has kg2
  replace HW := HW.gro G
  replace GG := GG.tg G
  clear G eg3
  refine nr ?_; intro U h; simp only [z0, z1] at h; subst h
  refine wpList_nil ?_
  refine then_n ?_
  refine wp_seq ?_
  refine wp_region_exA (A := ?Ax15) 6 [(0, 11), (1, 12), (2, 13), (3, 14), (4, 15), (5, 16)] [.val (.pointer (some ⟨g1, 0, none⟩)), .val (.agg (c29 fi fn)), .val (.pointer (some ⟨p, 0, none⟩)), .val (.pointer (some ⟨p, 0, none⟩)), .val (.pointer (some ⟨p, 20, none⟩)), .val (.agg (c29 pi pn))] follows (by kernel_rfl) rfl ?hAx15 (opsA_cons ?o0x15 (opsA_cons ?o1x15 (opsA_cons ?o2x15 (opsA_cons ?o3x15 (opsA_cons ?o4x15 (opsA_cons ?o5x15 opsA_nil)))))) ?restx15
  case hAx15 =>
    intro ptrs
    simp only [full, foldSlots, filledE, postE, List.foldl_cons, List.foldl_nil, List.getD_cons_zero, List.getD_cons_succ, fill_val, List.set_cons_zero, List.set_cons_succ]
    exact rfl
  case o0x15 => exact fun _ _ hw _ => opE_value (v := .pointer (some ⟨g1, 0, none⟩)) rfl (run_fld 110 _ 0 rfl _ _ rfl _ (by kernel_rfl))
  case o1x15 => exact fun _ _ hw _ => opE_value (v := .agg (c29 fi fn)) rfl (run_lda 29 _ rfl g1 0 2 rfl 110 _ (hw.has kg1) _ Try.underlying29 rfl si29 (Nat.le_of_ble_eq_true rfl) _ (by kernel_rfl))
  case o2x15 => exact fun _ _ _ _ => opE_move (v := .pointer (some ⟨p, 0, none⟩)) _ rfl rfl rfl
  case o3x15 => exact fun _ _ hw _ => opE_value (v := .pointer (some ⟨p, 0, none⟩)) rfl (run_nc _ rfl _ rfl)
  case o4x15 => exact fun _ _ hw _ => opE_value (v := .pointer (some ⟨p, 20, none⟩)) rfl (run_fld 98 _ 4 rfl _ _ rfl _ (by kernel_rfl))
  case o5x15 => exact fun _ _ hw _ => opE_value (v := .agg (c29 pi pn)) rfl (run_lda 29 _ rfl p 20 2 rfl 98 _ (hw.has kp) _ Try.underlying29 rfl si29 (Nat.le_of_ble_eq_true rfl) _ (by kernel_rfl))
  intro ptrs w4 GD hxE
  simp only [List.drop_succ_cons, List.drop_zero]
  replace kp := GD.has kp
  replace kg1 := GD.has kg1
  replace kg2 := GD.has kg2
  replace kg3 := GD.has kg3
  replace HW := HW.gro ((Gro.refl _).drew.trans GD)
  replace GG := GG.drew.tg GD
  clear GD
  refine s_callv 17 rfl rfl _ 55 Try.call55 rfl rfl _ rfl [.agg (c29 fi fn), .agg (c29 pi pn)] rfl (compare_any _ fi fn pi pn) ?_
  intro w5 G
  replace kp := G.has kp
  replace kg1 := G.has kg1
  replace kg2 := G.has kg2
  replace kg3 := G.has kg3
  replace HW := HW.gro G
  replace GG := GG.tg G
  clear G
  refine nr ?_; intro U h; simp only [z0, z1] at h; subst h
  refine s_val 7 rfl rfl (.int .i64 (cmpP fi fn pi pn)) (rfl) ?_
  refine nr ?_; intro U h; simp only [z0, z1] at h; subst h
  refine wpList_nil ?_
  refine then_n ?_
  refine wp_seq ?_
  refine wp_seq ?_
  refine wp_region_opq ?_
  intro OPS hY
  have y2 := hY 2 20 rfl
  clear hY
  refine s_val 18 rfl rfl (.int .i64 (cmpP fi fn pi pn)) (rfl) ?_
  refine nr ?_; intro U h; simp only [z0, z1] at h; subst h
  refine s_val 19 rfl rfl (.bool false) (run_lssT 3 _ _ _ rfl (cmpP fi fn pi pn) 0 rfl rfl false hl _) ?_
  refine nr ?_; intro U h; simp only [z0, z1] at h; subst h
  refine s_val 20 rfl rfl (.bool false) (rfl) ?_
  refine nr ?_; intro U h; simp only [z0, z1] at h; subst h
  refine s_gvalY 21 rfl rfl y2 rfl (.pointer (some ⟨g1, 0, none⟩)) (run_fld 110 _ 0 rfl _ _ rfl _ (by kernel_rfl)) ?_
  refine nr ?_; intro U h; simp only [z0, z1] at h; subst h
  refine s_gvalY 22 rfl rfl y2 rfl (.agg (c29 fi fn)) (run_lda 29 _ rfl g1 0 2 rfl 110 _ kg1 _ Try.underlying29 rfl si29 (Nat.le_of_ble_eq_true rfl) _ (by kernel_rfl)) ?_
  refine nr ?_; intro U h; simp only [z0, z1] at h; subst h
  refine s_gvalY 23 rfl rfl y2 rfl (.agg (c29 0 0)) (run_bd 29 _ rfl [] rfl _ (by kernel_rfl)) ?_
  refine nr ?_; intro U h; simp only [z0, z1] at h; subst h
  refine s_gvalY 24 rfl rfl y2 rfl (.bool false) (run_eqN _ _ _ rfl fi fn 0 0 rfl rfl false (hz) _) ?_
  refine nr ?_; intro U h; simp only [z0, z1] at h; subst h
  refine s_val 25 rfl rfl (.bool false) (rfl) ?_
  refine nr ?_; intro U h; simp only [z0, z1] at h; subst h
  refine wpList_nil ?_
  refine then_n ?_
  refine wp_cond_false rfl ?_
  refine wp_skip ?_
  refine then_n ?_
  refine wp_seq ?_
  refine wp_region_opq ?_
  intro OPS hY
  have y2 := hY 2 29 rfl
  clear hY
  refine s_val 27 rfl rfl (.int .i64 (cmpP fi fn pi pn)) (rfl) ?_
  refine nr ?_; intro U h; simp only [z0, z1] at h; subst h
  refine s_val 28 rfl rfl (.bool true) (run_gtrT 3 _ _ _ rfl (cmpP fi fn pi pn) 0 rfl rfl true hg _) ?_
  refine nr ?_; intro U h; simp only [z0, z1] at h; subst h
  refine s_val 29 rfl rfl (.bool true) (rfl) ?_
  refine nr ?_; intro U h; simp only [z0, z1] at h; subst h
  refine s_gvalY 30 rfl rfl y2 rfl (.pointer (some ⟨p, 0, none⟩)) (rfl) ?_
  refine nr ?_; intro U h; simp only [z0, z1] at h; subst h
  refine s_gvalY 31 rfl rfl y2 rfl (.pointer (some ⟨p, 0, none⟩)) (run_nc _ rfl _ rfl) ?_
  refine nr ?_; intro U h; simp only [z0, z1] at h; subst h
  refine s_gvalY 32 rfl rfl y2 rfl (.pointer (some ⟨p, 17, none⟩)) (run_fld 98 _ 2 rfl _ _ rfl _ (by kernel_rfl)) ?_
  refine nr ?_; intro U h; simp only [z0, z1] at h; subst h
  refine s_gvalY 33 rfl rfl y2 rfl (.bool true) (run_ldc 4 _ rfl p 17 rfl 98 _ kp (na4 _) _ rfl) ?_
  refine nr ?_; intro U h; simp only [z0, z1] at h; subst h
  refine s_val 34 rfl rfl (.bool true) (rfl) ?_
  refine nr ?_; intro U h; simp only [z0, z1] at h; subst h
  refine s_val 8 rfl rfl (.bool true) (rfl) ?_
  refine nr ?_; intro U h; simp only [z0, z1] at h; subst h
  refine wpList_nil ?_
  refine then_n ?_
  refine wp_seq ?_
  refine wp_seq ?_
  refine wp_region_lit ?_
  refine s_val 35 rfl rfl (.bool true) (rfl) ?_
  refine nr ?_; intro U h; simp only [z0, z1] at h; subst h
  refine wpList_nil ?_
  refine then_n ?_
  refine wp_cond_true rfl ?_
  refine wp_region_lit ?_
  refine s_val 36 rfl rfl (.pointer (some ⟨p, 0, none⟩)) (rfl) ?_
  refine nr ?_; intro U h; simp only [z0, z1] at h; subst h
  refine s_val 37 rfl rfl (.agg (c29 ni nn)) (run_lda 29 _ rfl g2 0 2 rfl 29 _ kg2 _ Try.underlying29 rfl si29 (Nat.le_of_ble_eq_true rfl) _ (by kernel_rfl)) ?_
  refine nr ?_; intro U h; simp only [z0, z1] at h; subst h
  refine s_val 38 rfl rfl (.pointer (some ⟨p, 0, none⟩)) (run_nc _ rfl _ rfl) ?_
  refine nr ?_; intro U h; simp only [z0, z1] at h; subst h
  refine s_val 39 rfl rfl (.pointer (some ⟨p, 18, none⟩)) (run_fld 98 _ 3 rfl _ _ rfl _ (by kernel_rfl)) ?_
  refine nr ?_; intro U h; simp only [z0, z1] at h; subst h
  refine s_store rfl rfl 29 _ _ rfl p 18 rfl (.agg (c29 ni nn)) rfl 98 _ kp (c29 ni nn) rfl (by kernel_rfl) (Nat.le_of_ble_eq_true rfl) (by kernel_rfl) (c98 id up true ni nn pi pn oth (some ⟨wp, 0, none⟩)) (by kernel_rfl) ?_
  intro w7 St
  replace kg1 := St.has (by omega) kg1
  replace kg2 := St.has (by omega) kg2
  replace kg3 := St.has (by omega) kg3
  replace HW := HW.stT (by decide) (by decide) (by decide) kp St
  replace GG := GG.st St (.inr (by simp))
  replace kp := St.new
  clear St
  refine wpList_nil ?_
  refine then_n ?_
  refine wp_seq ?_
  refine wp_seq ?_
  refine wp_region_lit ?_
  refine s_val 40 rfl rfl (.int .i64 (cmpP fi fn pi pn)) (rfl) ?_
  refine nr ?_; intro U h; simp only [z0, z1] at h; subst h
  refine s_val 41 rfl rfl (.bool true) (run_gtrT 3 _ _ _ rfl (cmpP fi fn pi pn) 0 rfl rfl true hg _) ?_
  refine nr ?_; intro U h; simp only [z0, z1] at h; subst h
  refine wpList_nil ?_
  refine then_n ?_
  refine wp_cond_true rfl ?_
  clear HW
  refine wp_region_pm (A := ?Ap4) (fun L x => GroS [p] w x ∧ x.heap[p]? = some (.cells (cond (L 17) (c98 id up false ni nn fi fn a (some ⟨wp, 0, none⟩)) (cond (L 14) (c98 id up false ni nn fi fn oth (some ⟨wp, 0, none⟩)) (cond (L 11) (c98 id up false ni nn pi pn oth (some ⟨wp, 0, none⟩)) (c98 id up true ni nn pi pn oth (some ⟨wp, 0, none⟩))))) 98 (0, 0)) ∧ x.heap[g1]? = some (.cells (c110 fi fn ti tn a) 110 (0, 0)) ∧ x.heap[g2]? = some (.cells (c29 ni nn) 29 (0, 0)) ∧ x.heap[g3]? = some (.cells (c59 false false Sl.nil false Sl.nil) 59 (0, 0))) 18 [(0, 42), (1, 43), (2, 44), (3, 45), (4, 46), (5, 47), (6, 48), (7, 49), (8, 50), (9, 51), (10, 52), (12, 53), (13, 54), (15, 55), (16, 56)] [.val (.pointer (some ⟨p, 0, none⟩)), .val (.pointer (some ⟨p, 0, none⟩)), .val (.pointer (some ⟨p, 0, none⟩)), .val (.pointer (some ⟨p, 0, none⟩)), .val (.pointer (some ⟨g1, 0, none⟩)), .val (.agg (c29 fi fn)), .val (.pointer (some ⟨g1, 4, none⟩)), .val (.agg (c23 a)), nwE w.heap.size, .val (.pointer (some ⟨p, 0, none⟩)), .val (.pointer (some ⟨p, 17, none⟩)), .val undef, .val (.pointer (some ⟨p, 0, none⟩)), .val (.pointer (some ⟨p, 20, none⟩)), .val undef, .val (.pointer (some ⟨p, 0, none⟩)), .val (.pointer (some ⟨p, 22, none⟩)), .val undef] [] [8] follows (by kernel_rfl) rfl (by kernel_rfl) (by decide) ⟨GG.drew, (Gro.refl _).drew.has kp, (Gro.refl _).drew.has kg1, (Gro.refl _).drew.has kg2, (Gro.refl _).drew.has kg3⟩ ?hAp4 (opsM_g (fun _ _ _ h _ G => ⟨h.1.tg G, G.has h.2.1, G.has h.2.2.1, G.has h.2.2.2.1, G.has h.2.2.2.2⟩) ?o0p4 (opsM_g (fun _ _ _ h _ G => ⟨h.1.tg G, G.has h.2.1, G.has h.2.2.1, G.has h.2.2.2.1, G.has h.2.2.2.2⟩) ?o1p4 (opsM_g (fun _ _ _ h _ G => ⟨h.1.tg G, G.has h.2.1, G.has h.2.2.1, G.has h.2.2.2.1, G.has h.2.2.2.2⟩) ?o2p4 (opsM_g (fun _ _ _ h _ G => ⟨h.1.tg G, G.has h.2.1, G.has h.2.2.1, G.has h.2.2.2.1, G.has h.2.2.2.2⟩) ?o3p4 (opsM_g (fun _ _ _ h _ G => ⟨h.1.tg G, G.has h.2.1, G.has h.2.2.1, G.has h.2.2.2.1, G.has h.2.2.2.2⟩) ?o4p4 (opsM_g (fun _ _ _ h _ G => ⟨h.1.tg G, G.has h.2.1, G.has h.2.2.1, G.has h.2.2.2.1, G.has h.2.2.2.2⟩) ?o5p4 (opsM_g (fun _ _ _ h _ G => ⟨h.1.tg G, G.has h.2.1, G.has h.2.2.1, G.has h.2.2.2.1, G.has h.2.2.2.2⟩) ?o6p4 (opsM_g (fun _ _ _ h _ G => ⟨h.1.tg G, G.has h.2.1, G.has h.2.2.1, G.has h.2.2.2.1, G.has h.2.2.2.2⟩) ?o7p4 (opsM_g (fun _ _ _ h _ G => ⟨h.1.tg G, G.has h.2.1, G.has h.2.2.1, G.has h.2.2.2.1, G.has h.2.2.2.2⟩) ?o8p4 (opsM_g (fun _ _ _ h _ G => ⟨h.1.tg G, G.has h.2.1, G.has h.2.2.1, G.has h.2.2.2.1, G.has h.2.2.2.2⟩) ?o9p4 (opsM_g (fun _ _ _ h _ G => ⟨h.1.tg G, G.has h.2.1, G.has h.2.2.1, G.has h.2.2.2.1, G.has h.2.2.2.2⟩) ?o10p4 (opsM_w ?o11p4 (opsM_g (fun _ _ _ h _ G => ⟨h.1.tg G, G.has h.2.1, G.has h.2.2.1, G.has h.2.2.2.1, G.has h.2.2.2.2⟩) ?o12p4 (opsM_g (fun _ _ _ h _ G => ⟨h.1.tg G, G.has h.2.1, G.has h.2.2.1, G.has h.2.2.2.1, G.has h.2.2.2.2⟩) ?o13p4 (opsM_w ?o14p4 (opsM_g (fun _ _ _ h _ G => ⟨h.1.tg G, G.has h.2.1, G.has h.2.2.1, G.has h.2.2.2.1, G.has h.2.2.2.2⟩) ?o15p4 (opsM_g (fun _ _ _ h _ G => ⟨h.1.tg G, G.has h.2.1, G.has h.2.2.1, G.has h.2.2.2.1, G.has h.2.2.2.2⟩) ?o16p4 (opsM_w ?o17p4 opsM_nil)))))))))))))))))) ?restp4
  case hAp4 =>
    intro ptrs
    simp only [full, foldSlots, filledE, postE, List.foldl_cons, List.foldl_nil, List.getD_cons_zero, List.getD_cons_succ, fill_val, fill_nw,  List.set_cons_zero, List.set_cons_succ]
    exact rfl
  case o0p4 => exact fun _ _ _ _ _ _ _ _ => opE_move (v := .pointer (some ⟨p, 0, none⟩)) _ rfl rfl rfl
  case o1p4 => exact fun _ _ _ _ _ _ _ _ => opE_move (v := .pointer (some ⟨p, 0, none⟩)) _ rfl rfl rfl
  case o2p4 => exact fun _ _ _ _ _ _ _ _ => opE_move (v := .pointer (some ⟨p, 0, none⟩)) _ rfl rfl rfl
  case o3p4 => exact fun _ _ _ _ _ _ _ _ => opE_move (v := .pointer (some ⟨p, 0, none⟩)) _ rfl rfl rfl
  case o4p4 => exact fun _ _ x hx _ _ _ _ => opE_value (v := .pointer (some ⟨g1, 0, none⟩)) rfl (run_fld 110 _ 0 rfl _ _ rfl _ (by kernel_rfl))
  case o5p4 => exact fun _ _ x hx _ _ _ _ => opE_value (v := .agg (c29 fi fn)) rfl (run_lda 29 _ rfl g1 0 2 rfl 110 _ hx.2.2.1 _ Try.underlying29 rfl si29 (Nat.le_of_ble_eq_true rfl) _ (by kernel_rfl))
  case o6p4 => exact fun _ _ x hx _ _ _ _ => opE_value (v := .pointer (some ⟨g1, 4, none⟩)) rfl (run_fld 110 _ 2 rfl _ _ rfl _ (by kernel_rfl))
  case o7p4 => exact fun _ _ x hx _ _ _ _ => opE_value (v := .agg (c23 a)) rfl (run_lda 23 _ rfl g1 4 16 rfl 110 _ hx.2.2.1 _ Try.underlying23 rfl si23 (Nat.le_of_ble_eq_true rfl) _ (by kernel_rfl))
  case o8p4 =>
    intro _ _ x hx _ _ _ _
    exact opE_call (nwE w.heap.size) rfl _ 34 Try.call34 rfl rfl _ rfl [] rfl ((new_any _).mono fun e w' ⟨g, he, hg, hz, hk⟩ => ⟨_, he, hg, g, rfl, Nat.le_trans hx.1.size hz, hk.base0 hx.1.size⟩)
  case o9p4 => exact fun _ _ x hx _ _ _ _ => opE_value (v := .pointer (some ⟨p, 0, none⟩)) rfl (run_nc _ rfl _ rfl)
  case o10p4 => exact fun _ _ x hx _ _ _ _ => opE_value (v := .pointer (some ⟨p, 17, none⟩)) rfl (run_fld 98 _ 2 rfl _ _ rfl _ (by kernel_rfl))
  case o11p4 =>
    intro L ptrs x hx hL hed hno _
    have hk := hx.2.1
    have h14 : L 14 = false := hno 14 (by kernel_rfl)
    have h17 : L 17 = false := hno 17 (by kernel_rfl)
    rw [h17, h14, hL] at hk
    replace hk : x.heap[p]? = some (.cells (c98 id up true ni nn pi pn oth (some ⟨wp, 0, none⟩)) 98 (0, 0)) := hk
    refine opX_store _ rfl 4 _ _ rfl p 17 rfl (.bool false) rfl 98 _ hk #[.bool false] rfl (by kernel_rfl) (Nat.le_of_ble_eq_true rfl) (by kernel_rfl) (c98 id up false ni nn pi pn oth (some ⟨wp, 0, none⟩)) (by kernel_rfl) ?_
    intro y St
    exact ⟨⟨⟨hx.1.st St (.inr (by simp)), (by rw [show upd L 11 17 = false from h17, show upd L 11 14 = false from h14]; exact St.new), St.has (by omega) hx.2.2.1, St.has (by omega) hx.2.2.2.1, St.has (by omega) hx.2.2.2.2⟩, StM.valsX [0, 1, 2, 3, 4, 5, 6, 7, 9, 10, 12, 13, 14, 15, 16, 17] [8] (by kernel_rfl) ⟨⟨_, rfl⟩, ⟨_, rfl⟩, ⟨_, rfl⟩, ⟨_, rfl⟩, ⟨_, rfl⟩, ⟨_, rfl⟩, ⟨_, rfl⟩, ⟨_, rfl⟩, ⟨_, rfl⟩, ⟨_, rfl⟩, ⟨_, rfl⟩, ⟨_, rfl⟩, ⟨_, rfl⟩, ⟨_, rfl⟩, ⟨_, rfl⟩, ⟨_, rfl⟩, trivial⟩ (fun j hj u hp => by cases List.mem_singleton.1 hj; obtain ⟨g, h1, h2, h3⟩ := hp; exact ⟨g, h1, h2, h3.stT (by decide) (by decide) (by decide) hk St⟩)⟩, rfl⟩
  case o12p4 => exact fun _ _ x hx _ _ _ _ => opE_value (v := .pointer (some ⟨p, 0, none⟩)) rfl (run_nc _ rfl _ rfl)
  case o13p4 => exact fun _ _ x hx _ _ _ _ => opE_value (v := .pointer (some ⟨p, 20, none⟩)) rfl (run_fld 98 _ 4 rfl _ _ rfl _ (by kernel_rfl))
  case o14p4 =>
    intro L ptrs x hx hL hed hno _
    have hk := hx.2.1
    have h11 : L 11 = true := hed 11 (by kernel_rfl)
    have h17 : L 17 = false := hno 17 (by kernel_rfl)
    rw [h17, hL, h11] at hk
    replace hk : x.heap[p]? = some (.cells (c98 id up false ni nn pi pn oth (some ⟨wp, 0, none⟩)) 98 (0, 0)) := hk
    refine opX_store _ rfl 29 _ _ rfl p 20 rfl (.agg (c29 fi fn)) rfl 98 _ hk (c29 fi fn) rfl (by kernel_rfl) (Nat.le_of_ble_eq_true rfl) (by kernel_rfl) (c98 id up false ni nn fi fn oth (some ⟨wp, 0, none⟩)) (by kernel_rfl) ?_
    intro y St
    exact ⟨⟨⟨hx.1.st St (.inr (by simp)), (by rw [show upd L 14 17 = false from h17]; exact St.new), St.has (by omega) hx.2.2.1, St.has (by omega) hx.2.2.2.1, St.has (by omega) hx.2.2.2.2⟩, StM.valsX [0, 1, 2, 3, 4, 5, 6, 7, 9, 10, 11, 12, 13, 15, 16, 17] [8] (by kernel_rfl) ⟨⟨_, rfl⟩, ⟨_, rfl⟩, ⟨_, rfl⟩, ⟨_, rfl⟩, ⟨_, rfl⟩, ⟨_, rfl⟩, ⟨_, rfl⟩, ⟨_, rfl⟩, ⟨_, rfl⟩, ⟨_, rfl⟩, ⟨_, rfl⟩, ⟨_, rfl⟩, ⟨_, rfl⟩, ⟨_, rfl⟩, ⟨_, rfl⟩, ⟨_, rfl⟩, trivial⟩ (fun j hj u hp => by cases List.mem_singleton.1 hj; obtain ⟨g, h1, h2, h3⟩ := hp; exact ⟨g, h1, h2, h3.stT (by decide) (by decide) (by decide) hk St⟩)⟩, rfl⟩
  case o15p4 => exact fun _ _ x hx _ _ _ _ => opE_value (v := .pointer (some ⟨p, 0, none⟩)) rfl (run_nc _ rfl _ rfl)
  case o16p4 => exact fun _ _ x hx _ _ _ _ => opE_value (v := .pointer (some ⟨p, 22, none⟩)) rfl (run_fld 98 _ 5 rfl _ _ rfl _ (by kernel_rfl))
  case o17p4 =>
    intro L ptrs x hx hL hed hno _
    have hk := hx.2.1
    have h11 : L 11 = true := hed 11 (by kernel_rfl)
    have h14 : L 14 = true := hed 14 (by kernel_rfl)
    rw [hL, h14, h11] at hk
    replace hk : x.heap[p]? = some (.cells (c98 id up false ni nn fi fn oth (some ⟨wp, 0, none⟩)) 98 (0, 0)) := hk
    refine opX_store _ rfl 23 _ _ rfl p 22 rfl (.agg (c23 a)) rfl 98 _ hk (c23 a) rfl (by kernel_rfl) (Nat.le_of_ble_eq_true rfl) (by kernel_rfl) (c98 id up false ni nn fi fn a (some ⟨wp, 0, none⟩)) (by kernel_rfl) ?_
    intro y St
    exact ⟨⟨⟨hx.1.st St (.inr (by simp)), St.new, St.has (by omega) hx.2.2.1, St.has (by omega) hx.2.2.2.1, St.has (by omega) hx.2.2.2.2⟩, StM.valsX [0, 1, 2, 3, 4, 5, 6, 7, 9, 10, 11, 12, 13, 14, 15, 16] [8] (by kernel_rfl) ⟨⟨_, rfl⟩, ⟨_, rfl⟩, ⟨_, rfl⟩, ⟨_, rfl⟩, ⟨_, rfl⟩, ⟨_, rfl⟩, ⟨_, rfl⟩, ⟨_, rfl⟩, ⟨_, rfl⟩, ⟨_, rfl⟩, ⟨_, rfl⟩, ⟨_, rfl⟩, ⟨_, rfl⟩, ⟨_, rfl⟩, ⟨_, rfl⟩, ⟨_, rfl⟩, trivial⟩ (fun j hj u hp => by cases List.mem_singleton.1 hj; obtain ⟨g, h1, h2, h3⟩ := hp; exact ⟨g, h1, h2, h3.stT (by decide) (by decide) (by decide) hk St⟩)⟩, rfl⟩
  intro ptrs w8 HJ hxE
  simp only [List.drop_succ_cons, List.drop_zero]
  clear GG kp kg1 kg2 kg3
  obtain ⟨GG, kp, kg1, kg2, kg3⟩ := HJ
  replace kp : w8.heap[p]? = some (.cells (c98 id up false ni nn fi fn a (some ⟨wp, 0, none⟩)) 98 (0, 0)) := kp
  obtain ⟨⟨wp2, hv, hwp2, HW2⟩, _⟩ := hxE
  simp only [hv]
  clear hv hxE
  refine s_val 57 rfl rfl (.pointer (some ⟨p, 0, none⟩)) (run_nc _ rfl _ rfl) ?_
  refine nr ?_; intro U h; simp only [z0, z1] at h; subst h
  refine s_val 58 rfl rfl (.pointer (some ⟨p, 38, none⟩)) (run_fld 98 _ 6 rfl _ _ rfl _ (by kernel_rfl)) ?_
  refine nr ?_; intro U h; simp only [z0, z1] at h; subst h
  refine s_store rfl rfl 95 _ _ rfl p 38 rfl (.pointer (some ⟨wp2, 0, none⟩)) rfl 98 _ kp #[.pointer (some ⟨wp2, 0, none⟩)] rfl (by kernel_rfl) (Nat.le_of_ble_eq_true rfl) (by kernel_rfl) (c98 id up false ni nn fi fn a (some ⟨wp2, 0, none⟩)) (by kernel_rfl) ?_
  intro w10 St
  replace kg1 := St.has (by omega) kg1
  replace kg2 := St.has (by omega) kg2
  replace kg3 := St.has (by omega) kg3
  replace HW2 := HW2.stT (by decide) (by decide) (by decide) kp St
  replace GG := GG.st St (.inr (by simp))
  replace kp := St.new
  clear St
  refine wpList_nil ?_
  refine then_n ?_
  refine wp_seq ?_
  refine wp_region_exA (A := ?Ax16) 6 [(0, 59), (1, 60), (2, 61), (3, 62), (4, 63), (5, 64)] [.val (.pointer (some ⟨g1, 2, none⟩)), .val (.agg (c29 ti tn)), .val (.pointer (some ⟨p, 0, none⟩)), .val (.pointer (some ⟨p, 0, none⟩)), .val (.pointer (some ⟨p, 18, none⟩)), .val (.agg (c29 ni nn))] follows (by kernel_rfl) rfl ?hAx16 (opsA_cons ?o0x16 (opsA_cons ?o1x16 (opsA_cons ?o2x16 (opsA_cons ?o3x16 (opsA_cons ?o4x16 (opsA_cons ?o5x16 opsA_nil)))))) ?restx16
  case hAx16 =>
    intro ptrs
    simp only [full, foldSlots, filledE, postE, List.foldl_cons, List.foldl_nil, List.getD_cons_zero, List.getD_cons_succ, fill_val, List.set_cons_zero, List.set_cons_succ]
    exact rfl
  case o0x16 => exact fun _ _ hw _ => opE_value (v := .pointer (some ⟨g1, 2, none⟩)) rfl (run_fld 110 _ 1 rfl _ _ rfl _ (by kernel_rfl))
  case o1x16 => exact fun _ _ hw _ => opE_value (v := .agg (c29 ti tn)) rfl (run_lda 29 _ rfl g1 2 2 rfl 110 _ (hw.has kg1) _ Try.underlying29 rfl si29 (Nat.le_of_ble_eq_true rfl) _ (by kernel_rfl))
  case o2x16 => exact fun _ _ _ _ => opE_move (v := .pointer (some ⟨p, 0, none⟩)) _ rfl rfl rfl
  case o3x16 => exact fun _ _ hw _ => opE_value (v := .pointer (some ⟨p, 0, none⟩)) rfl (run_nc _ rfl _ rfl)
  case o4x16 => exact fun _ _ hw _ => opE_value (v := .pointer (some ⟨p, 18, none⟩)) rfl (run_fld 98 _ 3 rfl _ _ rfl _ (by kernel_rfl))
  case o5x16 => exact fun _ _ hw _ => opE_value (v := .agg (c29 ni nn)) rfl (run_lda 29 _ rfl p 18 2 rfl 98 _ (hw.has kp) _ Try.underlying29 rfl si29 (Nat.le_of_ble_eq_true rfl) _ (by kernel_rfl))
  intro ptrs w11 GD hxE
  simp only [List.drop_succ_cons, List.drop_zero]
  replace kp := GD.has kp
  replace kg1 := GD.has kg1
  replace kg2 := GD.has kg2
  replace kg3 := GD.has kg3
  replace HW2 := HW2.gro ((Gro.refl _).drew.trans GD)
  replace GG := GG.drew.tg GD
  clear GD
  refine s_val 65 rfl rfl (.bool true) (run_eqN _ _ _ rfl ti tn ni nn rfl rfl true (hs) _) ?_
  refine nr ?_; intro U h; simp only [z0, z1] at h; subst h
  refine s_val 9 rfl rfl (.bool true) (rfl) ?_
  refine nr ?_; intro U h; simp only [z0, z1] at h; subst h
  refine wpList_nil ?_
  refine then_n ?_
  refine wp_seq ?_
  refine wp_region_opq ?_
  intro OPS hY
  have y1 := hY 1 67 rfl
  clear hY
  refine s_val 66 rfl rfl (.bool true) (rfl) ?_
  refine nr ?_; intro U h; simp only [z0, z1] at h; subst h
  refine s_val 67 rfl rfl (.bool true) (rfl) ?_
  refine nr ?_; intro U h; simp only [z0, z1] at h; subst h
  refine s_gvalY 68 rfl rfl y1 rfl (.pointer (some ⟨p, 0, none⟩)) (rfl) ?_
  refine nr ?_; intro U h; simp only [z0, z1] at h; subst h
  refine s_gcallxY 69 rfl rfl y1 rfl _ 56 Try.call56 rfl rfl _ rfl [.pointer (some ⟨p, 0, none⟩)] rfl (opens_any _ p wp2 w.heap.size id up false ni nn fi fn a none 0 [] 0 0 ⟨kp, HW2⟩) (fun _ _ ⟨he, _⟩ => ⟨_, he⟩) ?_
  rintro v w12 ⟨he, G, HE⟩
  cases he
  replace kg1 := G.has kg1 (by simp; omega)
  replace kg2 := G.has kg2 (by simp; omega)
  replace kg3 := G.has kg3 (by simp; omega)
  replace GG := GG.trans G
  clear kp HW2 G
  have kp := HE.box
  have HW2 := HE.win
  clear HE
  refine nr ?_; intro U h; simp only [z0, z1] at h; subst h
  refine s_val 70 rfl rfl (.bool true) (rfl) ?_
  refine nr ?_; intro U h; simp only [z0, z1] at h; subst h
  refine s_val 10 rfl rfl (.bool true) (rfl) ?_
  refine nr ?_; intro U h; simp only [z0, z1] at h; subst h
  refine wpList_nil ?_
  refine then_n ?_
  refine wp_seq ?_
  refine wp_seq ?_
  refine wp_region_opq ?_
  intro OPS hY
  have y1 := hY 1 72 rfl
  clear hY
  refine s_val 71 rfl rfl (.bool true) (rfl) ?_
  refine nr ?_; intro U h; simp only [z0, z1] at h; subst h
  refine s_val 72 rfl rfl (.bool true) (rfl) ?_
  refine nr ?_; intro U h; simp only [z0, z1] at h; subst h
  refine s_gvalY 73 rfl rfl y1 rfl (.bool true) (rfl) ?_
  refine nr ?_; intro U h; simp only [z0, z1] at h; subst h
  refine s_gvalY 74 rfl rfl y1 rfl (.bool false) (run_nt _ _ rfl true rfl) ?_
  refine nr ?_; intro U h; simp only [z0, z1] at h; subst h
  refine s_val 75 rfl rfl (.bool false) (rfl) ?_
  refine nr ?_; intro U h; simp only [z0, z1] at h; subst h
  refine wpList_nil ?_
  refine then_n ?_
  refine wp_cond_false rfl ?_
  refine wp_skip ?_
  refine then_n ?_
  refine wp_seq ?_
  refine wp_region_lit ?_
  refine s_val 80 rfl rfl (.bool true) (rfl) ?_
  refine nr ?_; intro U h; simp only [z0, z1] at h; subst h
  refine s_val 81 rfl rfl (.bool true) (rfl) ?_
  refine nr ?_; intro U h; simp only [z0, z1] at h; subst h
  refine s_val 82 rfl rfl (.pointer (some ⟨p, 0, none⟩)) (rfl) ?_
  refine nr ?_; intro U h; simp only [z0, z1] at h; subst h
  refine s_callx 83 rfl rfl _ 35 Try.call35 rfl rfl _ rfl [.pointer (some ⟨p, 0, none⟩)] rfl (greeting_any _ p wp2 w.heap.size id up true ni nn fi fn a none 0 [] 0 0 ⟨kp, HW2⟩) (fun _ _ ⟨_, _, _, _, _, he, _⟩ => ⟨_, he⟩) ?_
  rintro v w13 ⟨s1g, s2g, s3g, aog, capg, he, HVg, G⟩
  cases he
  replace kp := G.has kp
  replace kg1 := G.has kg1
  replace kg2 := G.has kg2
  replace kg3 := G.has kg3
  replace HW2 := HW2.gro G
  replace GG := GG.tg G
  clear G
  refine nr ?_; intro U h; simp only [z0, z1] at h; subst h
  refine s_bsl 84 rfl rfl 50 1 _ rfl [(0, .agg (c46 1 zF 0 false id zF 0 ni nn fi fn s1g s2g zF 0 zF s3g 0 0 ⟨aog, 0, capg⟩))] rfl (c46 1 zF 0 false id zF 0 ni nn fi fn s1g s2g zF 0 zF s3g 0 0 ⟨aog, 0, capg⟩) 46 (by kernel_rfl) ?_
  intro w14 g4 G eg4 kg4
  have bg4 := size_basS GG eg4
  have dpg4 := lt_new kp eg4
  have dg1g4 := lt_new kg1 eg4
  have dg2g4 := lt_new kg2 eg4
  have dg3g4 := lt_new kg3 eg4
  replace kp := G.has kp
  replace kg1 := G.has kg1
  replace kg2 := G.has kg2
  replace kg3 := G.has kg3
  replace HW2 := HW2.gro G
  replace HVg := HVg.gro G
  replace GG := GG.tg G
  clear G eg4
  refine nr ?_; intro U h; simp only [z0, z1] at h; subst h
  refine s_val 85 rfl rfl (.agg (c59 true true Sl.nil false ⟨some ⟨g4, 0, none⟩, 1, 1⟩)) (run_bd 59 _ rfl [(0, .bool true), (1, .bool true), (4, .slice (some ⟨g4, 0, none⟩) 1 1)] rfl _ (by kernel_rfl)) ?_
  refine nr ?_; intro U h; simp only [z0, z1] at h; subst h
  refine s_store rfl rfl 59 _ _ rfl g3 0 rfl (.agg (c59 true true Sl.nil false ⟨some ⟨g4, 0, none⟩, 1, 1⟩)) rfl 59 _ kg3 (c59 true true Sl.nil false ⟨some ⟨g4, 0, none⟩, 1, 1⟩) rfl (by kernel_rfl) (Nat.le_of_ble_eq_true rfl) (by kernel_rfl) (c59 true true Sl.nil false ⟨some ⟨g4, 0, none⟩, 1, 1⟩) (by kernel_rfl) ?_
  intro w16 St
  replace kp := St.has (by omega) kp
  replace kg1 := St.has (by omega) kg1
  replace kg2 := St.has (by omega) kg2
  replace kg4 := St.has (by omega) kg4
  replace HW2 := HW2.stT (by decide) (by decide) (by decide) kg3 St
  replace HVg := HVg.no5 ((GroS.refl [g3] _).st St (.inr (by simp))) (no5_one kg3 (by decide))
  replace GG := GG.st St (.inl bg3)
  replace kg3 := St.new
  clear St
  refine wpList_nil ?_
  refine then_n ?_
  refine wp_ret ?_
  refine bodyPost_ret (results_cell_row Try.results44 _ _ g3 59 _ (0, 0) _ rfl kg3 Try.underlying59 rfl (by kernel_rfl)) rfl ?_
  exact ⟨_, (p :: wp2 :: blk none), [], rfl, TV.one (f := pfr ⟨1, id, ni, nn, fi, fn, 0, []⟩ s1g s2g s3g ⟨aog, 0, capg⟩) kg4 HVg, ⟨wp2, _, none, 0, [], ⟨kp, HW2⟩, rfl, rfl, rfl⟩, GG.p1, Fresh.win hwp2, Fresh.nil0 _ _⟩
theorem and_no {a b : Prop} [Decidable a] [Decidable b] (h : (decide a && decide b) = false) : ¬ (a ∧ b) := fun ⟨ha, hb⟩ => by simp [ha, hb] at h
theorem and_yes {a b : Prop} [Decidable a] [Decidable b] (h : (decide a && decide b) = true) : a ∧ b := by simpa using h
set_option maxHeartbeats 4000000 in
theorem greeted_any (w : World) (p wp B : Nat) (id : Nat → Nat) (up op : Bool) (mi mn pi pn : Int) (oth : Nat → Nat) (ro : Option Addr) (rc : Nat) (q : List RV) (k c : Nat) (H : EW w p wp B id up op mi mn pi pn oth ro rc q k c) (fi fn ti tn : Int) (a : Nat → Nat) (ni nn n : Int) (kd : Int) (tx : List Nat) (hk : k + q.length ≤ 100000) (hc : c ≤ 100000) : Calls Try.prog 44 #[.pointer (some ⟨p, 0, none⟩), .agg (c110 fi fn ti tn a), .agg (c29 ni nn)] w (HearP w p id (p :: wp :: blk ro) (txb q) (helloS id ⟨up, op, mi, mn, pi, pn, oth, k, (q.map (·.l)), c⟩ ⟨kd, a, fi, fn, ti, tn, n, tx⟩ ni nn)) := by
  have ln := cmpP_neg fi fn pi pn
  have lp := cmpP_pos fi fn pi pn
  cases hl : decide (cmpP fi fn pi pn < 0)
  case true =>
    rw [hl] at ln
    rw [show helloS id ⟨up, op, mi, mn, pi, pn, oth, k, (q.map (·.l)), c⟩ ⟨kd, a, fi, fn, ti, tn, n, tx⟩ ni nn = (⟨up, op, mi, mn, pi, pn, oth, k, (q.map (·.l)), c⟩, PT.no) from if_pos (.inl ln.symm)]; exact greeted_less w p wp B id up op mi mn pi pn oth ro rc q k c H fi fn ti tn a ni nn hl
  rw [hl] at ln
  cases hz : (decide (fi = 0) && decide (fn = 0))
  case true =>
    rw [show helloS id ⟨up, op, mi, mn, pi, pn, oth, k, (q.map (·.l)), c⟩ ⟨kd, a, fi, fn, ti, tn, n, tx⟩ ni nn = (⟨up, op, mi, mn, pi, pn, oth, k, (q.map (·.l)), c⟩, PT.no) from if_pos (.inr (and_yes hz))]; exact greeted_zero w p wp B id up op mi mn pi pn oth ro rc q k c H fi fn ti tn a ni nn hl hz
  have h0 : ¬ (lessN fi fn pi pn = true ∨ (fi = 0 ∧ fn = 0)) := by
    rintro (h | h)
    · rw [← ln] at h
      cases h
    · exact and_no hz h
  cases hg : decide (0 < cmpP fi fn pi pn)
  case false =>
    rw [hg] at lp
    rw [show helloS id ⟨up, op, mi, mn, pi, pn, oth, k, (q.map (·.l)), c⟩ ⟨kd, a, fi, fn, ti, tn, n, tx⟩ ni nn = metS id false ⟨up, op, mi, mn, pi, pn, oth, k, (q.map (·.l)), c⟩ ⟨kd, a, fi, fn, ti, tn, n, tx⟩ from (if_neg h0).trans (if_neg (by rw [← lp]; simp))]
    cases hs : (decide (ti = mi) && decide (tn = mn))
    case false => rw [show metS id false ⟨up, op, mi, mn, pi, pn, oth, k, (q.map (·.l)), c⟩ ⟨kd, a, fi, fn, ti, tn, n, tx⟩ = (⟨up, op, mi, mn, pi, pn, oth, k, (q.map (·.l)), c⟩, ⟨false, false, [], false, [⟨1, id, mi, mn, pi, pn, 0, []⟩]⟩) from if_neg (and_no hs)]; exact greeted_same w p wp B id up op mi mn pi pn oth ro rc q k c H fi fn ti tn a ni nn hl hz hg hs
    cases op
    · rw [show metS id false ⟨up, false, mi, mn, pi, pn, oth, k, (q.map (·.l)), c⟩ ⟨kd, a, fi, fn, ti, tn, n, tx⟩ = (⟨up, true, mi, mn, pi, pn, oth, k, (q.map (·.l)), c⟩, ⟨false, true, [], false, [⟨1, id, mi, mn, pi, pn, 0, []⟩]⟩) from if_pos (and_yes hs)]; exact greeted_opened w p wp B id up mi mn pi pn oth ro rc q k c H fi fn ti tn a ni nn hl hz hg hs
    · rw [show metS id false ⟨up, true, mi, mn, pi, pn, oth, k, (q.map (·.l)), c⟩ ⟨kd, a, fi, fn, ti, tn, n, tx⟩ = (⟨up, true, mi, mn, pi, pn, oth, k, (q.map (·.l)), c⟩, ⟨false, false, [], false, [⟨3, zF, mi, mn, pi, pn, ((c : Nat) : Int), []⟩]⟩) from if_pos (and_yes hs)]; exact greeted_ack w p wp B id up mi mn pi pn oth ro rc q k c H fi fn ti tn a ni nn hl hz hg hs hk hc
  rw [hg] at lp
  rw [show helloS id ⟨up, op, mi, mn, pi, pn, oth, k, (q.map (·.l)), c⟩ ⟨kd, a, fi, fn, ti, tn, n, tx⟩ ni nn = metS id op (anewS ⟨up, op, mi, mn, pi, pn, oth, k, (q.map (·.l)), c⟩ ⟨kd, a, fi, fn, ti, tn, n, tx⟩ ni nn) ⟨kd, a, fi, fn, ti, tn, n, tx⟩ from (if_neg h0).trans (if_pos lp.symm)]
  cases op
  · cases hs : (decide (ti = mi) && decide (tn = mn))
    case false => rw [show metS id false (anewS ⟨up, false, mi, mn, pi, pn, oth, k, (q.map (·.l)), c⟩ ⟨kd, a, fi, fn, ti, tn, n, tx⟩ ni nn) ⟨kd, a, fi, fn, ti, tn, n, tx⟩ = (⟨up, false, mi, mn, fi, fn, a, 0, [], 0⟩, ⟨false, false, [], false, [⟨1, id, mi, mn, fi, fn, 0, []⟩]⟩) from if_neg (and_no hs)]; exact greeted_anew w p wp B id up mi mn pi pn oth ro rc q k c H fi fn ti tn a ni nn hl hz hg hs
    rw [show metS id false (anewS ⟨up, false, mi, mn, pi, pn, oth, k, (q.map (·.l)), c⟩ ⟨kd, a, fi, fn, ti, tn, n, tx⟩ ni nn) ⟨kd, a, fi, fn, ti, tn, n, tx⟩ = (⟨up, true, mi, mn, fi, fn, a, 0, [], 0⟩, ⟨false, true, [], false, [⟨1, id, mi, mn, fi, fn, 0, []⟩]⟩) from if_pos (and_yes hs)]; exact greeted_anewopened w p wp B id up mi mn pi pn oth ro rc q k c H fi fn ti tn a ni nn hl hz hg hs
  · cases hs : (decide (ti = ni) && decide (tn = nn))
    case false => rw [show metS id true (anewS ⟨up, true, mi, mn, pi, pn, oth, k, (q.map (·.l)), c⟩ ⟨kd, a, fi, fn, ti, tn, n, tx⟩ ni nn) ⟨kd, a, fi, fn, ti, tn, n, tx⟩ = (⟨up, false, ni, nn, fi, fn, a, 0, [], 0⟩, ⟨true, false, [], false, [⟨1, id, ni, nn, fi, fn, 0, []⟩]⟩) from if_neg (and_no hs)]; exact greeted_died w p wp B id up mi mn pi pn oth ro rc q k c H fi fn ti tn a ni nn hl hz hg hs
    rw [show metS id true (anewS ⟨up, true, mi, mn, pi, pn, oth, k, (q.map (·.l)), c⟩ ⟨kd, a, fi, fn, ti, tn, n, tx⟩ ni nn) ⟨kd, a, fi, fn, ti, tn, n, tx⟩ = (⟨up, true, ni, nn, fi, fn, a, 0, [], 0⟩, ⟨true, true, [], false, [⟨1, id, ni, nn, fi, fn, 0, []⟩]⟩) from if_pos (and_yes hs)]; exact greeted_diedopened w p wp B id up mi mn pi pn oth ro rc q k c H fi fn ti tn a ni nn hl hz hg hs
end Go.Proofs.Ytlfanecaglbomaa
