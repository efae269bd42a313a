/- The program's end: what comes of a frame. -/
import Derived.Test.YtlfanecaglbomaaEH3
namespace Go.Proofs.Ytlfanecaglbomaa
set_option maxRecDepth 100000
set_option maxHeartbeats 4000000
open Go.RowKit
theorem GroS.p1 {p : Nat} {S : List Nat} {w w' : World} (h : GroS [p] w w') : GroS (p :: S) w w' := h.mono fun x hx => by
  cases List.mem_singleton.1 hx
  exact List.mem_cons_self
theorem GroS.p2 {p r : Nat} {S : List Nat} {w w' : World} (h : GroS [p, r] w w') : GroS (p :: r :: S) w w' := h.mono fun x hx => by
  rcases List.mem_cons.1 hx with rfl | hx
  · exact List.mem_cons_self
  · cases List.mem_singleton.1 hx
    exact List.mem_cons_of_mem _ List.mem_cons_self
theorem uD {x : World} {g r : Nat} {c c' : Array Value} {t t' : TypeId} (h : x.heap[g]? = some (.cells c t (0, 0))) (h' : x.heap[r]? = some (.cells c' t' (0, 0))) (ht : t ≠ t') : g ∉ [r] := fun hm => by
  cases List.mem_singleton.1 hm
  exact jy h h' ht rfl
structure NoB (b : Value) : Prop where
  t1 : ∀ w, (Instr.typeAssert b 106 110 true).run Try.prog w = .ok (.tuple #[.agg (c110 0 0 0 0 zF), vFa]) w
  t2 : ∀ w, (Instr.typeAssert b 106 125 true).run Try.prog w = .ok (.tuple #[.agg (c125 0 0 0 0 0 Sl.nil), vFa]) w
  t3 : ∀ w, (Instr.typeAssert b 106 129 true).run Try.prog w = .ok (.tuple #[.agg (c129 0 0 0 0 0), vFa]) w
theorem NoB.nil : NoB .nilIface := ⟨fun w => by kernel_rfl, fun w => by kernel_rfl, fun w => by kernel_rfl⟩
theorem NoB.body (k : Nat) (h1 : 4 ≤ k) (h2 : k ≤ 12) (f : Fr) : NoB (bodyV k f) := by
  have : k = 4 ∨ k = 5 ∨ k = 6 ∨ k = 7 ∨ k = 8 ∨ k = 9 ∨ k = 10 ∨ k = 11 ∨ k = 12 := by omega
  rcases this with rfl | rfl | rfl | rfl | rfl | rfl | rfl | rfl | rfl <;> exact ⟨fun w => by kernel_rfl, fun w => by kernel_rfl, fun w => by kernel_rfl⟩
theorem uI (w : World) (p wp B : Nat) (id : Nat → Nat) (up op : Bool) (mi mn pi pn : Int) (oth : Nat → Nat) (ro : Option Addr) (rc : Nat) (q : List RV) (k c : Nat) (H : EW w p wp B id up op mi mn pi pn oth ro rc q k c) (fi fn ti tn : Int) (a : Nat → Nat) (ni nn : Int) (hl : decide (cmpP fi fn pi pn < 0) = true) : Calls Try.prog 44 #[pK p 0, .agg (c110 fi fn ti tn a), .agg (c29 ni nn)] w (HearP w p id (p :: wp :: blk ro) (txb q) (⟨up, op, mi, mn, pi, pn, oth, k, (q.map (·.l)), c⟩, PT.no)) := by
  refine jq Try.func44 rfl Try.ntmps44 [pK p 0, .agg (c110 fi fn ti tn a), .agg (c29 ni nn)] ?_
  intro U h; simp only [List.length_cons, List.length_nil, List.cons_append, List.nil_append, Nat.reduceAdd, Nat.reduceSub, List.reduceReplicate] at h; subst h
  have GG := GroS.refl [p] w
  have kp := H.box
  have HW := H.win
  have hpl := jm kp
  refine wp_seq (wp_region_lit ?_)
  refine jE 4 rfl rfl 110 _ rfl _ rfl (c110 fi fn ti tn a) rfl ?_
  intro w1 g1 G eg1 kg1
  have bg1 := jz GG eg1
  have dpg1 := jf kp eg1
  replace kp := G.has kp
  replace HW := HW.gro G
  replace GG := GG.tg G
  clear G eg1
  refine jE 5 rfl rfl 29 _ rfl _ rfl (c29 ni nn) rfl ?_
  intro w2 g2 G eg2 kg2
  have bg2 := jz GG eg2
  have dpg2 := jf kp eg2
  have dg1g2 := jf kg1 eg2
  replace kp := G.has kp
  replace kg1 := G.has kg1
  replace HW := HW.gro G
  replace GG := GG.tg G
  clear G eg2
  refine js 6 rfl rfl 59 rfl _ zv59 _ rfl ?_
  intro w3 g3 G eg3 kg3
  have bg3 := jz GG eg3
  have dpg3 := jf kp eg3
  have dg1g3 := jf kg1 eg3
  have dg2g3 := jf kg2 eg3
  replace kp := G.has kp
  replace kg1 := G.has kg1
  replace kg2 := G.has kg2
  replace HW := HW.gro G
  replace GG := GG.tg G
  clear G eg3
  refine nr ?_; intro U h; simp only [z0, z1] at h; subst h
  refine wpList_nil (ja (wp_seq ?_))
  refine jw (A := ?Ax1) 6 [(0, 11), (1, 12), (2, 13), (3, 14), (4, 15), (5, 16)] [.val (pK g1 0), .val (.agg (c29 fi fn)), .val (pK p 0), .val (pK p 0), .val (pK p 20), .val (.agg (c29 pi pn))] follows (by kernel_rfl) rfl ?hAx1 (jd ?o0x1 (jd ?o1x1 (jd ?o2x1 (jd ?o3x1 (jd ?o4x1 (jd ?o5x1 jM)))))) ?restx1
  case hAx1 =>
    intro ptrs
    simp only [full, foldSlots, filledE, postE, List.foldl_cons, List.foldl_nil, List.getD_cons_zero, List.getD_cons_succ, ju, List.set_cons_zero, List.set_cons_succ]
    exact rfl
  case o0x1 => exact fun _ _ hw _ => jb (v := pK g1 0) rfl (jc 110 _ 0 rfl _ _ rfl _)
  case o1x1 => exact fun _ _ hw _ => jb (v := .agg (c29 fi fn)) rfl (jk 29 _ rfl g1 0 2 rfl 110 _ (hw.has kg1) _ Try.underlying29 rfl si29 _)
  case o2x1 => exact fun _ _ _ _ => jj (v := pK p 0) _ rfl rfl rfl
  case o3x1 => exact fun _ _ hw _ => jb (v := pK p 0) rfl (jl _ rfl _ rfl)
  case o4x1 => exact fun _ _ hw _ => jb (v := pK p 20) rfl (jc 98 _ 4 rfl _ _ rfl _)
  case o5x1 => exact fun _ _ hw _ => jb (v := .agg (c29 pi pn)) rfl (jk 29 _ rfl p 20 2 rfl 98 _ (hw.has kp) _ Try.underlying29 rfl si29 _)
  intro ptrs w4 GD hxE
  simp only [List.drop_succ_cons, List.drop_zero]
  replace kp := GD.has kp
  replace kg1 := GD.has kg1
  replace kg2 := GD.has kg2
  replace kg3 := GD.has kg3
  replace HW := HW.gro ((Gro.refl _).drew.trans GD)
  replace GG := GG.drew.tg GD
  clear GD
  refine jC 17 rfl rfl _ 55 Try.call55 rfl rfl _ rfl [.agg (c29 fi fn), .agg (c29 pi pn)] rfl (zo _ fi fn pi pn) ?_
  intro w5 G
  replace kp := G.has kp
  replace kg1 := G.has kg1
  replace kg2 := G.has kg2
  replace kg3 := G.has kg3
  replace HW := HW.gro G
  replace GG := GG.tg G
  clear G
  refine mv 7 (iK (cmpP fi fn pi pn)) (wpList_nil (ja (wp_seq (wp_seq ?_))))
  refine jr ?_
  intro OPS hY
  have y2 := hY 2 20 rfl
  clear hY
  refine mv 18 (iK (cmpP fi fn pi pn)) ?_
  refine nr ?_; intro U h; simp only [z0, z1] at h; subst h
  refine sv 19 (vTr) (jP 3 _ _ _ rfl (cmpP fi fn pi pn) 0 rfl rfl true hl _) (mv 20 (vTr) (jO 21 rfl rfl y2 rfl ?_))
  refine nr ?_; intro U h; simp only [z0, z1] at h; subst h
  refine jO 22 rfl rfl y2 rfl (jO 23 rfl rfl y2 rfl (jO 24 rfl rfl y2 rfl ?_))
  refine nr ?_; intro U h; simp only [z0, z1] at h; subst h
  refine mv 25 (vTr) (wpList_nil (ja (wp_cond_true rfl (wp_seq (wp_region_lit (sv 26 (.agg (c59 false false Sl.nil false Sl.nil)) (jA 59 _ rfl [] rfl _ (by kernel_rfl)) ?_))))))
  refine jo rfl rfl 59 _ _ rfl g3 0 rfl (.agg (c59 false false Sl.nil false Sl.nil)) rfl 59 _ kg3 (c59 false false Sl.nil false Sl.nil) rfl (by kernel_rfl) (nlB rfl) (by kernel_rfl) (c59 false false Sl.nil false Sl.nil) (by kernel_rfl) ?_
  intro w7 St
  replace kp := St.has (by omega) kp
  replace kg1 := St.has (by omega) kg1
  replace kg2 := St.has (by omega) kg2
  replace HW := HW.stT (by decide) (by decide) (by decide) kg3 St
  replace GG := GG.st St (.inl bg3)
  replace kg3 := St.new
  clear St
  refine wpList_nil (ja (wp_ret (jL ?_)))
  refine bodyPost_ret (results_cell_row Try.results44 _ _ g3 59 _ (0, 0) _ rfl kg3 Try.underlying59 rfl (by kernel_rfl)) rfl ?_
  exact ⟨_, (p :: wp :: blk ro), (txb q), rfl, TV.no _, ⟨wp, B, ro, rc, q, ⟨kp, HW⟩, rfl, rfl, rfl⟩, GG.p1, Fresh.refl _ _, Fresh.refl _ _⟩
theorem uG (w : World) (p wp B : Nat) (id : Nat → Nat) (up op : Bool) (mi mn pi pn : Int) (oth : Nat → Nat) (ro : Option Addr) (rc : Nat) (q : List RV) (k c : Nat) (H : EW w p wp B id up op mi mn pi pn oth ro rc q k c) (fi fn ti tn : Int) (a : Nat → Nat) (ni nn : Int) (hl : decide (cmpP fi fn pi pn < 0) = false) (hz : (decide (fi = 0) && decide (fn = 0)) = true) : Calls Try.prog 44 #[pK p 0, .agg (c110 fi fn ti tn a), .agg (c29 ni nn)] w (HearP w p id (p :: wp :: blk ro) (txb q) (⟨up, op, mi, mn, pi, pn, oth, k, (q.map (·.l)), c⟩, PT.no)) := by
  refine jq Try.func44 rfl Try.ntmps44 [pK p 0, .agg (c110 fi fn ti tn a), .agg (c29 ni nn)] ?_
  intro U h; simp only [List.length_cons, List.length_nil, List.cons_append, List.nil_append, Nat.reduceAdd, Nat.reduceSub, List.reduceReplicate] at h; subst h
  have GG := GroS.refl [p] w
  have kp := H.box
  have HW := H.win
  have hpl := jm kp
  refine wp_seq (wp_region_lit ?_)
  refine jE 4 rfl rfl 110 _ rfl _ rfl (c110 fi fn ti tn a) rfl ?_
  intro w1 g1 G eg1 kg1
  have bg1 := jz GG eg1
  have dpg1 := jf kp eg1
  replace kp := G.has kp
  replace HW := HW.gro G
  replace GG := GG.tg G
  clear G eg1
  refine jE 5 rfl rfl 29 _ rfl _ rfl (c29 ni nn) rfl ?_
  intro w2 g2 G eg2 kg2
  have bg2 := jz GG eg2
  have dpg2 := jf kp eg2
  have dg1g2 := jf kg1 eg2
  replace kp := G.has kp
  replace kg1 := G.has kg1
  replace HW := HW.gro G
  replace GG := GG.tg G
  clear G eg2
  refine js 6 rfl rfl 59 rfl _ zv59 _ rfl ?_
  intro w3 g3 G eg3 kg3
  have bg3 := jz GG eg3
  have dpg3 := jf kp eg3
  have dg1g3 := jf kg1 eg3
  have dg2g3 := jf kg2 eg3
  replace kp := G.has kp
  replace kg1 := G.has kg1
  replace kg2 := G.has kg2
  replace HW := HW.gro G
  replace GG := GG.tg G
  clear G eg3
  refine nr ?_; intro U h; simp only [z0, z1] at h; subst h
  refine wpList_nil (ja (wp_seq ?_))
  refine jw (A := ?Ax2) 6 [(0, 11), (1, 12), (2, 13), (3, 14), (4, 15), (5, 16)] [.val (pK g1 0), .val (.agg (c29 fi fn)), .val (pK p 0), .val (pK p 0), .val (pK p 20), .val (.agg (c29 pi pn))] follows (by kernel_rfl) rfl ?hAx2 (jd ?o0x2 (jd ?o1x2 (jd ?o2x2 (jd ?o3x2 (jd ?o4x2 (jd ?o5x2 jM)))))) ?restx2
  case hAx2 =>
    intro ptrs
    simp only [full, foldSlots, filledE, postE, List.foldl_cons, List.foldl_nil, List.getD_cons_zero, List.getD_cons_succ, ju, List.set_cons_zero, List.set_cons_succ]
    exact rfl
  case o0x2 => exact fun _ _ hw _ => jb (v := pK g1 0) rfl (jc 110 _ 0 rfl _ _ rfl _)
  case o1x2 => exact fun _ _ hw _ => jb (v := .agg (c29 fi fn)) rfl (jk 29 _ rfl g1 0 2 rfl 110 _ (hw.has kg1) _ Try.underlying29 rfl si29 _)
  case o2x2 => exact fun _ _ _ _ => jj (v := pK p 0) _ rfl rfl rfl
  case o3x2 => exact fun _ _ hw _ => jb (v := pK p 0) rfl (jl _ rfl _ rfl)
  case o4x2 => exact fun _ _ hw _ => jb (v := pK p 20) rfl (jc 98 _ 4 rfl _ _ rfl _)
  case o5x2 => exact fun _ _ hw _ => jb (v := .agg (c29 pi pn)) rfl (jk 29 _ rfl p 20 2 rfl 98 _ (hw.has kp) _ Try.underlying29 rfl si29 _)
  intro ptrs w4 GD hxE
  simp only [List.drop_succ_cons, List.drop_zero]
  replace kp := GD.has kp
  replace kg1 := GD.has kg1
  replace kg2 := GD.has kg2
  replace kg3 := GD.has kg3
  replace HW := HW.gro ((Gro.refl _).drew.trans GD)
  replace GG := GG.drew.tg GD
  clear GD
  refine jC 17 rfl rfl _ 55 Try.call55 rfl rfl _ rfl [.agg (c29 fi fn), .agg (c29 pi pn)] rfl (zo _ fi fn pi pn) ?_
  intro w5 G
  replace kp := G.has kp
  replace kg1 := G.has kg1
  replace kg2 := G.has kg2
  replace kg3 := G.has kg3
  replace HW := HW.gro G
  replace GG := GG.tg G
  clear G
  refine mv 7 (iK (cmpP fi fn pi pn)) (wpList_nil (ja (wp_seq (wp_seq ?_))))
  refine jr ?_
  intro OPS hY
  have y2 := hY 2 20 rfl
  clear hY
  refine mv 18 (iK (cmpP fi fn pi pn)) ?_
  refine nr ?_; intro U h; simp only [z0, z1] at h; subst h
  refine sv 19 (vFa) (jP 3 _ _ _ rfl (cmpP fi fn pi pn) 0 rfl rfl false hl _) (mv 20 (vFa) (jn 21 rfl rfl y2 rfl (pK g1 0) (jc 110 _ 0 rfl _ _ rfl _) ?_))
  refine nr ?_; intro U h; simp only [z0, z1] at h; subst h
  refine jn 22 rfl rfl y2 rfl (.agg (c29 fi fn)) (jk 29 _ rfl g1 0 2 rfl 110 _ kg1 _ Try.underlying29 rfl si29 _) (jn 23 rfl rfl y2 rfl (.agg (c29 0 0)) (jA 29 _ rfl [] rfl _ (by kernel_rfl)) (jn 24 rfl rfl y2 rfl (vTr) (jW _ _ _ rfl fi fn 0 0 rfl rfl true (hz) _) ?_))
  refine nr ?_; intro U h; simp only [z0, z1] at h; subst h
  refine mv 25 (vTr) (wpList_nil (ja (wp_cond_true rfl (wp_seq (wp_region_lit (sv 26 (.agg (c59 false false Sl.nil false Sl.nil)) (jA 59 _ rfl [] rfl _ (by kernel_rfl)) ?_))))))
  refine jo rfl rfl 59 _ _ rfl g3 0 rfl (.agg (c59 false false Sl.nil false Sl.nil)) rfl 59 _ kg3 (c59 false false Sl.nil false Sl.nil) rfl (by kernel_rfl) (nlB rfl) (by kernel_rfl) (c59 false false Sl.nil false Sl.nil) (by kernel_rfl) ?_
  intro w7 St
  replace kp := St.has (by omega) kp
  replace kg1 := St.has (by omega) kg1
  replace kg2 := St.has (by omega) kg2
  replace HW := HW.stT (by decide) (by decide) (by decide) kg3 St
  replace GG := GG.st St (.inl bg3)
  replace kg3 := St.new
  clear St
  refine wpList_nil (ja (wp_ret (jL ?_)))
  refine bodyPost_ret (results_cell_row Try.results44 _ _ g3 59 _ (0, 0) _ rfl kg3 Try.underlying59 rfl (by kernel_rfl)) rfl ?_
  exact ⟨_, (p :: wp :: blk ro), (txb q), rfl, TV.no _, ⟨wp, B, ro, rc, q, ⟨kp, HW⟩, rfl, rfl, rfl⟩, GG.p1, Fresh.refl _ _, Fresh.refl _ _⟩
theorem uH (w : World) (p wp B : Nat) (id : Nat → Nat) (up op : Bool) (mi mn pi pn : Int) (oth : Nat → Nat) (ro : Option Addr) (rc : Nat) (q : List RV) (k c : Nat) (H : EW w p wp B id up op mi mn pi pn oth ro rc q k c) (fi fn ti tn : Int) (a : Nat → Nat) (ni nn : Int) (hl : decide (cmpP fi fn pi pn < 0) = false) (hz : (decide (fi = 0) && decide (fn = 0)) = false) (hg : decide (0 < cmpP fi fn pi pn) = false) (hs : (decide (ti = mi) && decide (tn = mn)) = false) : Calls Try.prog 44 #[pK p 0, .agg (c110 fi fn ti tn a), .agg (c29 ni nn)] w (HearP w p id (p :: wp :: blk ro) (txb q) (⟨up, op, mi, mn, pi, pn, oth, k, (q.map (·.l)), c⟩, ⟨false, false, [], false, [⟨1, id, mi, mn, pi, pn, 0, []⟩]⟩)) := by
  refine jq Try.func44 rfl Try.ntmps44 [pK p 0, .agg (c110 fi fn ti tn a), .agg (c29 ni nn)] ?_
  intro U h; simp only [List.length_cons, List.length_nil, List.cons_append, List.nil_append, Nat.reduceAdd, Nat.reduceSub, List.reduceReplicate] at h; subst h
  have GG := GroS.refl [p] w
  have kp := H.box
  have HW := H.win
  have hpl := jm kp
  refine wp_seq (wp_region_lit ?_)
  refine jE 4 rfl rfl 110 _ rfl _ rfl (c110 fi fn ti tn a) rfl ?_
  intro w1 g1 G eg1 kg1
  have bg1 := jz GG eg1
  have dpg1 := jf kp eg1
  replace kp := G.has kp
  replace HW := HW.gro G
  replace GG := GG.tg G
  clear G eg1
  refine jE 5 rfl rfl 29 _ rfl _ rfl (c29 ni nn) rfl ?_
  intro w2 g2 G eg2 kg2
  have bg2 := jz GG eg2
  have dpg2 := jf kp eg2
  have dg1g2 := jf kg1 eg2
  replace kp := G.has kp
  replace kg1 := G.has kg1
  replace HW := HW.gro G
  replace GG := GG.tg G
  clear G eg2
  refine js 6 rfl rfl 59 rfl _ zv59 _ rfl ?_
  intro w3 g3 G eg3 kg3
  have bg3 := jz GG eg3
  have dpg3 := jf kp eg3
  have dg1g3 := jf kg1 eg3
  have dg2g3 := jf kg2 eg3
  replace kp := G.has kp
  replace kg1 := G.has kg1
  replace kg2 := G.has kg2
  replace HW := HW.gro G
  replace GG := GG.tg G
  clear G eg3
  refine nr ?_; intro U h; simp only [z0, z1] at h; subst h
  refine wpList_nil (ja (wp_seq ?_))
  refine jw (A := ?Ax3) 6 [(0, 11), (1, 12), (2, 13), (3, 14), (4, 15), (5, 16)] [.val (pK g1 0), .val (.agg (c29 fi fn)), .val (pK p 0), .val (pK p 0), .val (pK p 20), .val (.agg (c29 pi pn))] follows (by kernel_rfl) rfl ?hAx3 (jd ?o0x3 (jd ?o1x3 (jd ?o2x3 (jd ?o3x3 (jd ?o4x3 (jd ?o5x3 jM)))))) ?restx3
  case hAx3 =>
    intro ptrs
    simp only [full, foldSlots, filledE, postE, List.foldl_cons, List.foldl_nil, List.getD_cons_zero, List.getD_cons_succ, ju, List.set_cons_zero, List.set_cons_succ]
    exact rfl
  case o0x3 => exact fun _ _ hw _ => jb (v := pK g1 0) rfl (jc 110 _ 0 rfl _ _ rfl _)
  case o1x3 => exact fun _ _ hw _ => jb (v := .agg (c29 fi fn)) rfl (jk 29 _ rfl g1 0 2 rfl 110 _ (hw.has kg1) _ Try.underlying29 rfl si29 _)
  case o2x3 => exact fun _ _ _ _ => jj (v := pK p 0) _ rfl rfl rfl
  case o3x3 => exact fun _ _ hw _ => jb (v := pK p 0) rfl (jl _ rfl _ rfl)
  case o4x3 => exact fun _ _ hw _ => jb (v := pK p 20) rfl (jc 98 _ 4 rfl _ _ rfl _)
  case o5x3 => exact fun _ _ hw _ => jb (v := .agg (c29 pi pn)) rfl (jk 29 _ rfl p 20 2 rfl 98 _ (hw.has kp) _ Try.underlying29 rfl si29 _)
  intro ptrs w4 GD hxE
  simp only [List.drop_succ_cons, List.drop_zero]
  replace kp := GD.has kp
  replace kg1 := GD.has kg1
  replace kg2 := GD.has kg2
  replace kg3 := GD.has kg3
  replace HW := HW.gro ((Gro.refl _).drew.trans GD)
  replace GG := GG.drew.tg GD
  clear GD
  refine jC 17 rfl rfl _ 55 Try.call55 rfl rfl _ rfl [.agg (c29 fi fn), .agg (c29 pi pn)] rfl (zo _ fi fn pi pn) ?_
  intro w5 G
  replace kp := G.has kp
  replace kg1 := G.has kg1
  replace kg2 := G.has kg2
  replace kg3 := G.has kg3
  replace HW := HW.gro G
  replace GG := GG.tg G
  clear G
  refine mv 7 (iK (cmpP fi fn pi pn)) (wpList_nil (ja (wp_seq (wp_seq ?_))))
  refine jr ?_
  intro OPS hY
  have y2 := hY 2 20 rfl
  clear hY
  refine mv 18 (iK (cmpP fi fn pi pn)) ?_
  refine nr ?_; intro U h; simp only [z0, z1] at h; subst h
  refine sv 19 (vFa) (jP 3 _ _ _ rfl (cmpP fi fn pi pn) 0 rfl rfl false hl _) (mv 20 (vFa) (jn 21 rfl rfl y2 rfl (pK g1 0) (jc 110 _ 0 rfl _ _ rfl _) ?_))
  refine nr ?_; intro U h; simp only [z0, z1] at h; subst h
  refine jn 22 rfl rfl y2 rfl (.agg (c29 fi fn)) (jk 29 _ rfl g1 0 2 rfl 110 _ kg1 _ Try.underlying29 rfl si29 _) (jn 23 rfl rfl y2 rfl (.agg (c29 0 0)) (jA 29 _ rfl [] rfl _ (by kernel_rfl)) (jn 24 rfl rfl y2 rfl (vFa) (jW _ _ _ rfl fi fn 0 0 rfl rfl false (hz) _) ?_))
  refine nr ?_; intro U h; simp only [z0, z1] at h; subst h
  refine mv 25 (vFa) (wpList_nil (ja (wp_cond_false rfl (wp_skip (ja (wp_seq ?_))))))
  refine jr ?_
  intro OPS hY
  have y2 := hY 2 29 rfl
  clear hY
  refine mv 27 (iK (cmpP fi fn pi pn)) (sv 28 (vFa) (jD 3 _ _ _ rfl (cmpP fi fn pi pn) 0 rfl rfl false hg _) ?_)
  refine nr ?_; intro U h; simp only [z0, z1] at h; subst h
  refine mv 29 (vFa) (jO 30 rfl rfl y2 rfl (jO 31 rfl rfl y2 rfl ?_))
  refine nr ?_; intro U h; simp only [z0, z1] at h; subst h
  refine jO 32 rfl rfl y2 rfl (jO 33 rfl rfl y2 rfl (mv 34 (vFa) ?_))
  refine nr ?_; intro U h; simp only [z0, z1] at h; subst h
  refine mv 8 (vFa) (wpList_nil (ja (wp_seq (wp_seq (wp_region_lit (mv 35 (vFa) (wpList_nil (ja (wp_cond_false rfl (wp_skip (ja (wp_seq (wp_seq (wp_region_lit (mv 40 (iK (cmpP fi fn pi pn)) ?_)))))))))))))))
  refine nr ?_; intro U h; simp only [z0, z1] at h; subst h
  refine sv 41 (vFa) (jD 3 _ _ _ rfl (cmpP fi fn pi pn) 0 rfl rfl false hg _) (wpList_nil (ja (wp_cond_false rfl (wp_skip (ja (wp_seq ?_))))))
  refine jw (A := ?Ax4) 6 [(0, 59), (1, 60), (2, 61), (3, 62), (4, 63), (5, 64)] [.val (pK g1 2), .val (.agg (c29 ti tn)), .val (pK p 0), .val (pK p 0), .val (pK p 18), .val (.agg (c29 mi mn))] follows (by kernel_rfl) rfl ?hAx4 (jd ?o0x4 (jd ?o1x4 (jd ?o2x4 (jd ?o3x4 (jd ?o4x4 (jd ?o5x4 jM)))))) ?restx4
  case hAx4 =>
    intro ptrs
    simp only [full, foldSlots, filledE, postE, List.foldl_cons, List.foldl_nil, List.getD_cons_zero, List.getD_cons_succ, ju, List.set_cons_zero, List.set_cons_succ]
    exact rfl
  case o0x4 => exact fun _ _ hw _ => jb (v := pK g1 2) rfl (jc 110 _ 1 rfl _ _ rfl _)
  case o1x4 => exact fun _ _ hw _ => jb (v := .agg (c29 ti tn)) rfl (jk 29 _ rfl g1 2 2 rfl 110 _ (hw.has kg1) _ Try.underlying29 rfl si29 _)
  case o2x4 => exact fun _ _ _ _ => jj (v := pK p 0) _ rfl rfl rfl
  case o3x4 => exact fun _ _ hw _ => jb (v := pK p 0) rfl (jl _ rfl _ rfl)
  case o4x4 => exact fun _ _ hw _ => jb (v := pK p 18) rfl (jc 98 _ 3 rfl _ _ rfl _)
  case o5x4 => exact fun _ _ hw _ => jb (v := .agg (c29 mi mn)) rfl (jk 29 _ rfl p 18 2 rfl 98 _ (hw.has kp) _ Try.underlying29 rfl si29 _)
  intro ptrs w6 GD hxE
  simp only [List.drop_succ_cons, List.drop_zero]
  replace kp := GD.has kp
  replace kg1 := GD.has kg1
  replace kg2 := GD.has kg2
  replace kg3 := GD.has kg3
  replace HW := HW.gro ((Gro.refl _).drew.trans GD)
  replace GG := GG.drew.tg GD
  clear GD
  refine sv 65 (vFa) (jW _ _ _ rfl ti tn mi mn rfl rfl false (hs) _) (mv 9 (vFa) ?_)
  refine nr ?_; intro U h; simp only [z0, z1] at h; subst h
  refine wpList_nil (ja (wp_seq ?_))
  refine jr ?_
  intro OPS hY
  have y1 := hY 1 67 rfl
  clear hY
  refine mv 66 (vFa) (mv 67 (vFa) (jO 68 rfl rfl y1 rfl ?_))
  refine nr ?_; intro U h; simp only [z0, z1] at h; subst h
  refine jO 69 rfl rfl y1 rfl (mv 70 (vFa) (mv 10 (vFa) ?_))
  refine nr ?_; intro U h; simp only [z0, z1] at h; subst h
  refine wpList_nil (ja (wp_seq (wp_seq ?_)))
  refine jr ?_
  intro OPS hY
  have y1 := hY 1 72 rfl
  clear hY
  refine mv 71 (vFa) (mv 72 (vFa) (jO 73 rfl rfl y1 rfl ?_))
  refine nr ?_; intro U h; simp only [z0, z1] at h; subst h
  refine jO 74 rfl rfl y1 rfl (mv 75 (vFa) (wpList_nil (ja (wp_cond_false rfl (wp_skip (ja (wp_seq (wp_region_lit (mv 80 (vFa) ?_)))))))))
  refine nr ?_; intro U h; simp only [z0, z1] at h; subst h
  refine mv 81 (vFa) (mv 82 (pK p 0) ?_)
  refine jt 83 rfl rfl _ 35 Try.call35 rfl rfl _ rfl [pK p 0] rfl (zn _ p wp B id up op mi mn pi pn oth ro rc q k c ⟨kp, HW⟩) (fun _ _ ⟨_, _, _, _, _, he, _⟩ => ⟨_, he⟩) ?_
  rintro v w7 ⟨s1g, s2g, s3g, aog, capg, he, HVg, G⟩
  cases he
  replace kp := G.has kp
  replace kg1 := G.has kg1
  replace kg2 := G.has kg2
  replace kg3 := G.has kg3
  replace HW := HW.gro G
  replace GG := GG.tg G
  clear G
  refine nr ?_; intro U h; simp only [z0, z1] at h; subst h
  refine zR 84 rfl rfl 50 1 _ rfl [(0, .agg (c46 1 zF 0 false id zF 0 mi mn pi pn s1g s2g zF 0 zF s3g 0 0 ⟨aog, 0, capg⟩))] rfl (c46 1 zF 0 false id zF 0 mi mn pi pn s1g s2g zF 0 zF s3g 0 0 ⟨aog, 0, capg⟩) 46 (by kernel_rfl) ?_
  intro w8 g4 G eg4 kg4
  have bg4 := jz GG eg4
  have dpg4 := jf kp eg4
  have dg1g4 := jf kg1 eg4
  have dg2g4 := jf kg2 eg4
  have dg3g4 := jf kg3 eg4
  replace kp := G.has kp
  replace kg1 := G.has kg1
  replace kg2 := G.has kg2
  replace kg3 := G.has kg3
  replace HW := HW.gro G
  replace HVg := HVg.gro G
  replace GG := GG.tg G
  clear G eg4
  refine sv 85 (.agg (c59 false false Sl.nil false ⟨some ⟨g4, 0, none⟩, 1, 1⟩)) (jA 59 _ rfl [(0, vFa), (1, vFa), (4, .slice (some ⟨g4, 0, none⟩) 1 1)] rfl _ (by kernel_rfl)) ?_
  refine jo rfl rfl 59 _ _ rfl g3 0 rfl (.agg (c59 false false Sl.nil false ⟨some ⟨g4, 0, none⟩, 1, 1⟩)) rfl 59 _ kg3 (c59 false false Sl.nil false ⟨some ⟨g4, 0, none⟩, 1, 1⟩) rfl (by kernel_rfl) (nlB rfl) (by kernel_rfl) (c59 false false Sl.nil false ⟨some ⟨g4, 0, none⟩, 1, 1⟩) (by kernel_rfl) ?_
  intro w10 St
  replace kp := St.has (by omega) kp
  replace kg1 := St.has (by omega) kg1
  replace kg2 := St.has (by omega) kg2
  replace kg4 := St.has (by omega) kg4
  replace HW := HW.stT (by decide) (by decide) (by decide) kg3 St
  replace HVg := HVg.no5 ((GroS.refl [g3] _).st St (.inr (by simp))) (jv kg3 (by decide))
  replace GG := GG.st St (.inl bg3)
  replace kg3 := St.new
  clear St
  refine wpList_nil (ja (wp_ret ?_))
  refine bodyPost_ret (results_cell_row Try.results44 _ _ g3 59 _ (0, 0) _ rfl kg3 Try.underlying59 rfl (by kernel_rfl)) rfl ?_
  exact ⟨_, (p :: wp :: blk ro), (txb q), rfl, TV.one (f := pfr ⟨1, id, mi, mn, pi, pn, 0, []⟩ s1g s2g s3g ⟨aog, 0, capg⟩) kg4 HVg, ⟨wp, B, ro, rc, q, ⟨kp, HW⟩, rfl, rfl, rfl⟩, GG.p1, Fresh.refl _ _, Fresh.refl _ _⟩
theorem Jh (w : World) (p wp B : Nat) (id : Nat → Nat) (up : Bool) (mi mn pi pn : Int) (oth : Nat → Nat) (ro : Option Addr) (rc : Nat) (q : List RV) (k c : Nat) (H : EW w p wp B id up true mi mn pi pn oth ro rc q k c) (fi fn ti tn : Int) (a : Nat → Nat) (ni nn : Int) (hl : decide (cmpP fi fn pi pn < 0) = false) (hz : (decide (fi = 0) && decide (fn = 0)) = false) (hg : decide (0 < cmpP fi fn pi pn) = false) (hs : (decide (ti = mi) && decide (tn = mn)) = true) (hk : k + q.length ≤ 100000) (hc : c ≤ 100000) : Calls Try.prog 44 #[pK p 0, .agg (c110 fi fn ti tn a), .agg (c29 ni nn)] w (HearP w p id (p :: wp :: blk ro) (txb q) (⟨up, true, mi, mn, pi, pn, oth, k, (q.map (·.l)), c⟩, ⟨false, false, [], false, [⟨3, zF, mi, mn, pi, pn, ((c : Nat) : Int), []⟩]⟩)) := by
  refine jq Try.func44 rfl Try.ntmps44 [pK p 0, .agg (c110 fi fn ti tn a), .agg (c29 ni nn)] ?_
  intro U h; simp only [List.length_cons, List.length_nil, List.cons_append, List.nil_append, Nat.reduceAdd, Nat.reduceSub, List.reduceReplicate] at h; subst h
  have GG := GroS.refl [p] w
  have kp := H.box
  have HW := H.win
  have hpl := jm kp
  refine wp_seq (wp_region_lit ?_)
  refine jE 4 rfl rfl 110 _ rfl _ rfl (c110 fi fn ti tn a) rfl ?_
  intro w1 g1 G eg1 kg1
  have bg1 := jz GG eg1
  have dpg1 := jf kp eg1
  replace kp := G.has kp
  replace HW := HW.gro G
  replace GG := GG.tg G
  clear G eg1
  refine jE 5 rfl rfl 29 _ rfl _ rfl (c29 ni nn) rfl ?_
  intro w2 g2 G eg2 kg2
  have bg2 := jz GG eg2
  have dpg2 := jf kp eg2
  have dg1g2 := jf kg1 eg2
  replace kp := G.has kp
  replace kg1 := G.has kg1
  replace HW := HW.gro G
  replace GG := GG.tg G
  clear G eg2
  refine js 6 rfl rfl 59 rfl _ zv59 _ rfl ?_
  intro w3 g3 G eg3 kg3
  have bg3 := jz GG eg3
  have dpg3 := jf kp eg3
  have dg1g3 := jf kg1 eg3
  have dg2g3 := jf kg2 eg3
  replace kp := G.has kp
  replace kg1 := G.has kg1
  replace kg2 := G.has kg2
  replace HW := HW.gro G
  replace GG := GG.tg G
  clear G eg3
  refine nr ?_; intro U h; simp only [z0, z1] at h; subst h
  refine wpList_nil (ja (wp_seq ?_))
  refine jw (A := ?Ax5) 6 [(0, 11), (1, 12), (2, 13), (3, 14), (4, 15), (5, 16)] [.val (pK g1 0), .val (.agg (c29 fi fn)), .val (pK p 0), .val (pK p 0), .val (pK p 20), .val (.agg (c29 pi pn))] follows (by kernel_rfl) rfl ?hAx5 (jd ?o0x5 (jd ?o1x5 (jd ?o2x5 (jd ?o3x5 (jd ?o4x5 (jd ?o5x5 jM)))))) ?restx5
  case hAx5 =>
    intro ptrs
    simp only [full, foldSlots, filledE, postE, List.foldl_cons, List.foldl_nil, List.getD_cons_zero, List.getD_cons_succ, ju, List.set_cons_zero, List.set_cons_succ]
    exact rfl
  case o0x5 => exact fun _ _ hw _ => jb (v := pK g1 0) rfl (jc 110 _ 0 rfl _ _ rfl _)
  case o1x5 => exact fun _ _ hw _ => jb (v := .agg (c29 fi fn)) rfl (jk 29 _ rfl g1 0 2 rfl 110 _ (hw.has kg1) _ Try.underlying29 rfl si29 _)
  case o2x5 => exact fun _ _ _ _ => jj (v := pK p 0) _ rfl rfl rfl
  case o3x5 => exact fun _ _ hw _ => jb (v := pK p 0) rfl (jl _ rfl _ rfl)
  case o4x5 => exact fun _ _ hw _ => jb (v := pK p 20) rfl (jc 98 _ 4 rfl _ _ rfl _)
  case o5x5 => exact fun _ _ hw _ => jb (v := .agg (c29 pi pn)) rfl (jk 29 _ rfl p 20 2 rfl 98 _ (hw.has kp) _ Try.underlying29 rfl si29 _)
  intro ptrs w4 GD hxE
  simp only [List.drop_succ_cons, List.drop_zero]
  replace kp := GD.has kp
  replace kg1 := GD.has kg1
  replace kg2 := GD.has kg2
  replace kg3 := GD.has kg3
  replace HW := HW.gro ((Gro.refl _).drew.trans GD)
  replace GG := GG.drew.tg GD
  clear GD
  refine jC 17 rfl rfl _ 55 Try.call55 rfl rfl _ rfl [.agg (c29 fi fn), .agg (c29 pi pn)] rfl (zo _ fi fn pi pn) ?_
  intro w5 G
  replace kp := G.has kp
  replace kg1 := G.has kg1
  replace kg2 := G.has kg2
  replace kg3 := G.has kg3
  replace HW := HW.gro G
  replace GG := GG.tg G
  clear G
  refine mv 7 (iK (cmpP fi fn pi pn)) (wpList_nil (ja (wp_seq (wp_seq ?_))))
  refine jr ?_
  intro OPS hY
  have y2 := hY 2 20 rfl
  clear hY
  refine mv 18 (iK (cmpP fi fn pi pn)) ?_
  refine nr ?_; intro U h; simp only [z0, z1] at h; subst h
  refine sv 19 (vFa) (jP 3 _ _ _ rfl (cmpP fi fn pi pn) 0 rfl rfl false hl _) (mv 20 (vFa) (jn 21 rfl rfl y2 rfl (pK g1 0) (jc 110 _ 0 rfl _ _ rfl _) ?_))
  refine nr ?_; intro U h; simp only [z0, z1] at h; subst h
  refine jn 22 rfl rfl y2 rfl (.agg (c29 fi fn)) (jk 29 _ rfl g1 0 2 rfl 110 _ kg1 _ Try.underlying29 rfl si29 _) (jn 23 rfl rfl y2 rfl (.agg (c29 0 0)) (jA 29 _ rfl [] rfl _ (by kernel_rfl)) (jn 24 rfl rfl y2 rfl (vFa) (jW _ _ _ rfl fi fn 0 0 rfl rfl false (hz) _) ?_))
  refine nr ?_; intro U h; simp only [z0, z1] at h; subst h
  refine mv 25 (vFa) (wpList_nil (ja (wp_cond_false rfl (wp_skip (ja (wp_seq ?_))))))
  refine jr ?_
  intro OPS hY
  have y2 := hY 2 29 rfl
  clear hY
  refine mv 27 (iK (cmpP fi fn pi pn)) (sv 28 (vFa) (jD 3 _ _ _ rfl (cmpP fi fn pi pn) 0 rfl rfl false hg _) ?_)
  refine nr ?_; intro U h; simp only [z0, z1] at h; subst h
  refine mv 29 (vFa) (jO 30 rfl rfl y2 rfl (jO 31 rfl rfl y2 rfl ?_))
  refine nr ?_; intro U h; simp only [z0, z1] at h; subst h
  refine jO 32 rfl rfl y2 rfl (jO 33 rfl rfl y2 rfl (mv 34 (vFa) ?_))
  refine nr ?_; intro U h; simp only [z0, z1] at h; subst h
  refine mv 8 (vFa) (wpList_nil (ja (wp_seq (wp_seq (wp_region_lit (mv 35 (vFa) (wpList_nil (ja (wp_cond_false rfl (wp_skip (ja (wp_seq (wp_seq (wp_region_lit (mv 40 (iK (cmpP fi fn pi pn)) ?_)))))))))))))))
  refine nr ?_; intro U h; simp only [z0, z1] at h; subst h
  refine sv 41 (vFa) (jD 3 _ _ _ rfl (cmpP fi fn pi pn) 0 rfl rfl false hg _) (wpList_nil (ja (wp_cond_false rfl (wp_skip (ja (wp_seq ?_))))))
  refine jw (A := ?Ax6) 6 [(0, 59), (1, 60), (2, 61), (3, 62), (4, 63), (5, 64)] [.val (pK g1 2), .val (.agg (c29 ti tn)), .val (pK p 0), .val (pK p 0), .val (pK p 18), .val (.agg (c29 mi mn))] follows (by kernel_rfl) rfl ?hAx6 (jd ?o0x6 (jd ?o1x6 (jd ?o2x6 (jd ?o3x6 (jd ?o4x6 (jd ?o5x6 jM)))))) ?restx6
  case hAx6 =>
    intro ptrs
    simp only [full, foldSlots, filledE, postE, List.foldl_cons, List.foldl_nil, List.getD_cons_zero, List.getD_cons_succ, ju, List.set_cons_zero, List.set_cons_succ]
    exact rfl
  case o0x6 => exact fun _ _ hw _ => jb (v := pK g1 2) rfl (jc 110 _ 1 rfl _ _ rfl _)
  case o1x6 => exact fun _ _ hw _ => jb (v := .agg (c29 ti tn)) rfl (jk 29 _ rfl g1 2 2 rfl 110 _ (hw.has kg1) _ Try.underlying29 rfl si29 _)
  case o2x6 => exact fun _ _ _ _ => jj (v := pK p 0) _ rfl rfl rfl
  case o3x6 => exact fun _ _ hw _ => jb (v := pK p 0) rfl (jl _ rfl _ rfl)
  case o4x6 => exact fun _ _ hw _ => jb (v := pK p 18) rfl (jc 98 _ 3 rfl _ _ rfl _)
  case o5x6 => exact fun _ _ hw _ => jb (v := .agg (c29 mi mn)) rfl (jk 29 _ rfl p 18 2 rfl 98 _ (hw.has kp) _ Try.underlying29 rfl si29 _)
  intro ptrs w6 GD hxE
  simp only [List.drop_succ_cons, List.drop_zero]
  replace kp := GD.has kp
  replace kg1 := GD.has kg1
  replace kg2 := GD.has kg2
  replace kg3 := GD.has kg3
  replace HW := HW.gro ((Gro.refl _).drew.trans GD)
  replace GG := GG.drew.tg GD
  clear GD
  refine sv 65 (vTr) (jW _ _ _ rfl ti tn mi mn rfl rfl true (hs) _) (mv 9 (vTr) ?_)
  refine nr ?_; intro U h; simp only [z0, z1] at h; subst h
  refine wpList_nil (ja (wp_seq ?_))
  refine jr ?_
  intro OPS hY
  have y1 := hY 1 67 rfl
  clear hY
  refine mv 66 (vTr) (mv 67 (vTr) (jn 68 rfl rfl y1 rfl (pK p 0) (rfl) ?_))
  refine nr ?_; intro U h; simp only [z0, z1] at h; subst h
  refine yE 69 rfl rfl y1 rfl _ 56 Try.call56 rfl rfl _ rfl [pK p 0] rfl (zC _ p wp B id up true mi mn pi pn oth ro rc q k c ⟨kp, HW⟩) (fun _ _ ⟨he, _⟩ => ⟨_, he⟩) ?_
  rintro v w7 ⟨he, G, HE⟩
  cases he
  replace kg1 := G.has kg1 (by simp; omega)
  replace kg2 := G.has kg2 (by simp; omega)
  replace kg3 := G.has kg3 (by simp; omega)
  replace GG := GG.trans G
  clear kp HW G
  have kp := HE.box
  have HW := HE.win
  clear HE
  refine mv 70 (vFa) (mv 10 (vFa) ?_)
  refine nr ?_; intro U h; simp only [z0, z1] at h; subst h
  refine wpList_nil (ja (wp_seq (wp_seq ?_)))
  refine jr ?_
  intro OPS hY
  have y1 := hY 1 72 rfl
  clear hY
  refine mv 71 (vTr) (mv 72 (vTr) (jn 73 rfl rfl y1 rfl (vFa) (rfl) ?_))
  refine nr ?_; intro U h; simp only [z0, z1] at h; subst h
  refine jn 74 rfl rfl y1 rfl (vTr) (jU _ _ rfl false rfl) (mv 75 (vTr) (wpList_nil (ja (wp_cond_true rfl (wp_seq (wp_region_lit (mv 76 (pK p 0) ?_)))))))
  refine nr ?_; intro U h; simp only [z0, z1] at h; subst h
  refine jt 77 rfl rfl _ 57 Try.call57 rfl rfl _ rfl [pK p 0] rfl (uT _ p wp B id up true mi mn pi pn oth ro rc q k c ⟨kp, HW⟩ hk hc) (fun _ _ ⟨_, _, _, _, _, he, _⟩ => ⟨_, he⟩) ?_
  rintro v w8 ⟨s1g, s2g, s3g, aog, capg, he, HVg, G⟩
  cases he
  replace kp := G.has kp
  replace kg1 := G.has kg1
  replace kg2 := G.has kg2
  replace kg3 := G.has kg3
  replace HW := HW.gro G
  replace GG := GG.tg G
  clear G
  refine zR 78 rfl rfl 50 1 _ rfl [(0, .agg (c46 3 zF 0 false zF zF ((c : Nat) : Int) mi mn pi pn s1g s2g zF 0 zF s3g 0 0 ⟨aog, 0, capg⟩))] rfl (c46 3 zF 0 false zF zF ((c : Nat) : Int) mi mn pi pn s1g s2g zF 0 zF s3g 0 0 ⟨aog, 0, capg⟩) 46 (by kernel_rfl) ?_
  intro w9 g4 G eg4 kg4
  have bg4 := jz GG eg4
  have dpg4 := jf kp eg4
  have dg1g4 := jf kg1 eg4
  have dg2g4 := jf kg2 eg4
  have dg3g4 := jf kg3 eg4
  replace kp := G.has kp
  replace kg1 := G.has kg1
  replace kg2 := G.has kg2
  replace kg3 := G.has kg3
  replace HW := HW.gro G
  replace HVg := HVg.gro G
  replace GG := GG.tg G
  clear G eg4
  refine sv 79 (.agg (c59 false false Sl.nil false ⟨some ⟨g4, 0, none⟩, 1, 1⟩)) (jA 59 _ rfl [(4, .slice (some ⟨g4, 0, none⟩) 1 1)] rfl _ (by kernel_rfl)) ?_
  refine nr ?_; intro U h; simp only [z0, z1] at h; subst h
  refine jo rfl rfl 59 _ _ rfl g3 0 rfl (.agg (c59 false false Sl.nil false ⟨some ⟨g4, 0, none⟩, 1, 1⟩)) rfl 59 _ kg3 (c59 false false Sl.nil false ⟨some ⟨g4, 0, none⟩, 1, 1⟩) rfl (by kernel_rfl) (nlB rfl) (by kernel_rfl) (c59 false false Sl.nil false ⟨some ⟨g4, 0, none⟩, 1, 1⟩) (by kernel_rfl) ?_
  intro w11 St
  replace kp := St.has (by omega) kp
  replace kg1 := St.has (by omega) kg1
  replace kg2 := St.has (by omega) kg2
  replace kg4 := St.has (by omega) kg4
  replace HW := HW.stT (by decide) (by decide) (by decide) kg3 St
  replace HVg := HVg.no5 ((GroS.refl [g3] _).st St (.inr (by simp))) (jv kg3 (by decide))
  replace GG := GG.st St (.inl bg3)
  replace kg3 := St.new
  clear St
  refine wpList_nil (ja (wp_ret (jL ?_)))
  refine bodyPost_ret (results_cell_row Try.results44 _ _ g3 59 _ (0, 0) _ rfl kg3 Try.underlying59 rfl (by kernel_rfl)) rfl ?_
  exact ⟨_, (p :: wp :: blk ro), (txb q), rfl, TV.one (f := pfr ⟨3, zF, mi, mn, pi, pn, ((c : Nat) : Int), []⟩ s1g s2g s3g ⟨aog, 0, capg⟩) kg4 HVg, ⟨wp, B, ro, rc, q, ⟨kp, HW⟩, rfl, rfl, rfl⟩, GG.p1, Fresh.refl _ _, Fresh.refl _ _⟩
theorem vT (w : World) (p wp B : Nat) (id : Nat → Nat) (up : Bool) (mi mn pi pn : Int) (oth : Nat → Nat) (ro : Option Addr) (rc : Nat) (q : List RV) (k c : Nat) (H : EW w p wp B id up false mi mn pi pn oth ro rc q k c) (fi fn ti tn : Int) (a : Nat → Nat) (ni nn : Int) (hl : decide (cmpP fi fn pi pn < 0) = false) (hz : (decide (fi = 0) && decide (fn = 0)) = false) (hg : decide (0 < cmpP fi fn pi pn) = false) (hs : (decide (ti = mi) && decide (tn = mn)) = true) : Calls Try.prog 44 #[pK p 0, .agg (c110 fi fn ti tn a), .agg (c29 ni nn)] w (HearP w p id (p :: wp :: blk ro) (txb q) (⟨up, true, mi, mn, pi, pn, oth, k, (q.map (·.l)), c⟩, ⟨false, true, [], false, [⟨1, id, mi, mn, pi, pn, 0, []⟩]⟩)) := by
  refine jq Try.func44 rfl Try.ntmps44 [pK p 0, .agg (c110 fi fn ti tn a), .agg (c29 ni nn)] ?_
  intro U h; simp only [List.length_cons, List.length_nil, List.cons_append, List.nil_append, Nat.reduceAdd, Nat.reduceSub, List.reduceReplicate] at h; subst h
  have GG := GroS.refl [p] w
  have kp := H.box
  have HW := H.win
  have hpl := jm kp
  refine wp_seq (wp_region_lit ?_)
  refine jE 4 rfl rfl 110 _ rfl _ rfl (c110 fi fn ti tn a) rfl ?_
  intro w1 g1 G eg1 kg1
  have bg1 := jz GG eg1
  have dpg1 := jf kp eg1
  replace kp := G.has kp
  replace HW := HW.gro G
  replace GG := GG.tg G
  clear G eg1
  refine jE 5 rfl rfl 29 _ rfl _ rfl (c29 ni nn) rfl ?_
  intro w2 g2 G eg2 kg2
  have bg2 := jz GG eg2
  have dpg2 := jf kp eg2
  have dg1g2 := jf kg1 eg2
  replace kp := G.has kp
  replace kg1 := G.has kg1
  replace HW := HW.gro G
  replace GG := GG.tg G
  clear G eg2
  refine js 6 rfl rfl 59 rfl _ zv59 _ rfl ?_
  intro w3 g3 G eg3 kg3
  have bg3 := jz GG eg3
  have dpg3 := jf kp eg3
  have dg1g3 := jf kg1 eg3
  have dg2g3 := jf kg2 eg3
  replace kp := G.has kp
  replace kg1 := G.has kg1
  replace kg2 := G.has kg2
  replace HW := HW.gro G
  replace GG := GG.tg G
  clear G eg3
  refine nr ?_; intro U h; simp only [z0, z1] at h; subst h
  refine wpList_nil (ja (wp_seq ?_))
  refine jw (A := ?Ax7) 6 [(0, 11), (1, 12), (2, 13), (3, 14), (4, 15), (5, 16)] [.val (pK g1 0), .val (.agg (c29 fi fn)), .val (pK p 0), .val (pK p 0), .val (pK p 20), .val (.agg (c29 pi pn))] follows (by kernel_rfl) rfl ?hAx7 (jd ?o0x7 (jd ?o1x7 (jd ?o2x7 (jd ?o3x7 (jd ?o4x7 (jd ?o5x7 jM)))))) ?restx7
  case hAx7 =>
    intro ptrs
    simp only [full, foldSlots, filledE, postE, List.foldl_cons, List.foldl_nil, List.getD_cons_zero, List.getD_cons_succ, ju, List.set_cons_zero, List.set_cons_succ]
    exact rfl
  case o0x7 => exact fun _ _ hw _ => jb (v := pK g1 0) rfl (jc 110 _ 0 rfl _ _ rfl _)
  case o1x7 => exact fun _ _ hw _ => jb (v := .agg (c29 fi fn)) rfl (jk 29 _ rfl g1 0 2 rfl 110 _ (hw.has kg1) _ Try.underlying29 rfl si29 _)
  case o2x7 => exact fun _ _ _ _ => jj (v := pK p 0) _ rfl rfl rfl
  case o3x7 => exact fun _ _ hw _ => jb (v := pK p 0) rfl (jl _ rfl _ rfl)
  case o4x7 => exact fun _ _ hw _ => jb (v := pK p 20) rfl (jc 98 _ 4 rfl _ _ rfl _)
  case o5x7 => exact fun _ _ hw _ => jb (v := .agg (c29 pi pn)) rfl (jk 29 _ rfl p 20 2 rfl 98 _ (hw.has kp) _ Try.underlying29 rfl si29 _)
  intro ptrs w4 GD hxE
  simp only [List.drop_succ_cons, List.drop_zero]
  replace kp := GD.has kp
  replace kg1 := GD.has kg1
  replace kg2 := GD.has kg2
  replace kg3 := GD.has kg3
  replace HW := HW.gro ((Gro.refl _).drew.trans GD)
  replace GG := GG.drew.tg GD
  clear GD
  refine jC 17 rfl rfl _ 55 Try.call55 rfl rfl _ rfl [.agg (c29 fi fn), .agg (c29 pi pn)] rfl (zo _ fi fn pi pn) ?_
  intro w5 G
  replace kp := G.has kp
  replace kg1 := G.has kg1
  replace kg2 := G.has kg2
  replace kg3 := G.has kg3
  replace HW := HW.gro G
  replace GG := GG.tg G
  clear G
  refine mv 7 (iK (cmpP fi fn pi pn)) (wpList_nil (ja (wp_seq (wp_seq ?_))))
  refine jr ?_
  intro OPS hY
  have y2 := hY 2 20 rfl
  clear hY
  refine mv 18 (iK (cmpP fi fn pi pn)) ?_
  refine nr ?_; intro U h; simp only [z0, z1] at h; subst h
  refine sv 19 (vFa) (jP 3 _ _ _ rfl (cmpP fi fn pi pn) 0 rfl rfl false hl _) (mv 20 (vFa) (jn 21 rfl rfl y2 rfl (pK g1 0) (jc 110 _ 0 rfl _ _ rfl _) ?_))
  refine nr ?_; intro U h; simp only [z0, z1] at h; subst h
  refine jn 22 rfl rfl y2 rfl (.agg (c29 fi fn)) (jk 29 _ rfl g1 0 2 rfl 110 _ kg1 _ Try.underlying29 rfl si29 _) (jn 23 rfl rfl y2 rfl (.agg (c29 0 0)) (jA 29 _ rfl [] rfl _ (by kernel_rfl)) (jn 24 rfl rfl y2 rfl (vFa) (jW _ _ _ rfl fi fn 0 0 rfl rfl false (hz) _) ?_))
  refine nr ?_; intro U h; simp only [z0, z1] at h; subst h
  refine mv 25 (vFa) (wpList_nil (ja (wp_cond_false rfl (wp_skip (ja (wp_seq ?_))))))
  refine jr ?_
  intro OPS hY
  have y2 := hY 2 29 rfl
  clear hY
  refine mv 27 (iK (cmpP fi fn pi pn)) (sv 28 (vFa) (jD 3 _ _ _ rfl (cmpP fi fn pi pn) 0 rfl rfl false hg _) ?_)
  refine nr ?_; intro U h; simp only [z0, z1] at h; subst h
  refine mv 29 (vFa) (jO 30 rfl rfl y2 rfl (jO 31 rfl rfl y2 rfl ?_))
  refine nr ?_; intro U h; simp only [z0, z1] at h; subst h
  refine jO 32 rfl rfl y2 rfl (jO 33 rfl rfl y2 rfl (mv 34 (vFa) ?_))
  refine nr ?_; intro U h; simp only [z0, z1] at h; subst h
  refine mv 8 (vFa) (wpList_nil (ja (wp_seq (wp_seq (wp_region_lit (mv 35 (vFa) (wpList_nil (ja (wp_cond_false rfl (wp_skip (ja (wp_seq (wp_seq (wp_region_lit (mv 40 (iK (cmpP fi fn pi pn)) ?_)))))))))))))))
  refine nr ?_; intro U h; simp only [z0, z1] at h; subst h
  refine sv 41 (vFa) (jD 3 _ _ _ rfl (cmpP fi fn pi pn) 0 rfl rfl false hg _) (wpList_nil (ja (wp_cond_false rfl (wp_skip (ja (wp_seq ?_))))))
  refine jw (A := ?Ax8) 6 [(0, 59), (1, 60), (2, 61), (3, 62), (4, 63), (5, 64)] [.val (pK g1 2), .val (.agg (c29 ti tn)), .val (pK p 0), .val (pK p 0), .val (pK p 18), .val (.agg (c29 mi mn))] follows (by kernel_rfl) rfl ?hAx8 (jd ?o0x8 (jd ?o1x8 (jd ?o2x8 (jd ?o3x8 (jd ?o4x8 (jd ?o5x8 jM)))))) ?restx8
  case hAx8 =>
    intro ptrs
    simp only [full, foldSlots, filledE, postE, List.foldl_cons, List.foldl_nil, List.getD_cons_zero, List.getD_cons_succ, ju, List.set_cons_zero, List.set_cons_succ]
    exact rfl
  case o0x8 => exact fun _ _ hw _ => jb (v := pK g1 2) rfl (jc 110 _ 1 rfl _ _ rfl _)
  case o1x8 => exact fun _ _ hw _ => jb (v := .agg (c29 ti tn)) rfl (jk 29 _ rfl g1 2 2 rfl 110 _ (hw.has kg1) _ Try.underlying29 rfl si29 _)
  case o2x8 => exact fun _ _ _ _ => jj (v := pK p 0) _ rfl rfl rfl
  case o3x8 => exact fun _ _ hw _ => jb (v := pK p 0) rfl (jl _ rfl _ rfl)
  case o4x8 => exact fun _ _ hw _ => jb (v := pK p 18) rfl (jc 98 _ 3 rfl _ _ rfl _)
  case o5x8 => exact fun _ _ hw _ => jb (v := .agg (c29 mi mn)) rfl (jk 29 _ rfl p 18 2 rfl 98 _ (hw.has kp) _ Try.underlying29 rfl si29 _)
  intro ptrs w6 GD hxE
  simp only [List.drop_succ_cons, List.drop_zero]
  replace kp := GD.has kp
  replace kg1 := GD.has kg1
  replace kg2 := GD.has kg2
  replace kg3 := GD.has kg3
  replace HW := HW.gro ((Gro.refl _).drew.trans GD)
  replace GG := GG.drew.tg GD
  clear GD
  refine sv 65 (vTr) (jW _ _ _ rfl ti tn mi mn rfl rfl true (hs) _) (mv 9 (vTr) ?_)
  refine nr ?_; intro U h; simp only [z0, z1] at h; subst h
  refine wpList_nil (ja (wp_seq ?_))
  refine jr ?_
  intro OPS hY
  have y1 := hY 1 67 rfl
  clear hY
  refine mv 66 (vTr) (mv 67 (vTr) (jn 68 rfl rfl y1 rfl (pK p 0) (rfl) ?_))
  refine nr ?_; intro U h; simp only [z0, z1] at h; subst h
  refine yE 69 rfl rfl y1 rfl _ 56 Try.call56 rfl rfl _ rfl [pK p 0] rfl (zC _ p wp B id up false mi mn pi pn oth ro rc q k c ⟨kp, HW⟩) (fun _ _ ⟨he, _⟩ => ⟨_, he⟩) ?_
  rintro v w7 ⟨he, G, HE⟩
  cases he
  replace kg1 := G.has kg1 (by simp; omega)
  replace kg2 := G.has kg2 (by simp; omega)
  replace kg3 := G.has kg3 (by simp; omega)
  replace GG := GG.trans G
  clear kp HW G
  have kp := HE.box
  have HW := HE.win
  clear HE
  refine mv 70 (vTr) (mv 10 (vTr) ?_)
  refine nr ?_; intro U h; simp only [z0, z1] at h; subst h
  refine wpList_nil (ja (wp_seq (wp_seq ?_)))
  refine jr ?_
  intro OPS hY
  have y1 := hY 1 72 rfl
  clear hY
  refine mv 71 (vTr) (mv 72 (vTr) (jn 73 rfl rfl y1 rfl (vTr) (rfl) ?_))
  refine nr ?_; intro U h; simp only [z0, z1] at h; subst h
  refine jn 74 rfl rfl y1 rfl (vFa) (jU _ _ rfl true rfl) (mv 75 (vFa) (wpList_nil (ja (wp_cond_false rfl (wp_skip (ja (wp_seq (wp_region_lit (mv 80 (vFa) ?_)))))))))
  refine nr ?_; intro U h; simp only [z0, z1] at h; subst h
  refine mv 81 (vTr) (mv 82 (pK p 0) ?_)
  refine jt 83 rfl rfl _ 35 Try.call35 rfl rfl _ rfl [pK p 0] rfl (zn _ p wp B id up true mi mn pi pn oth ro rc q k c ⟨kp, HW⟩) (fun _ _ ⟨_, _, _, _, _, he, _⟩ => ⟨_, he⟩) ?_
  rintro v w8 ⟨s1g, s2g, s3g, aog, capg, he, HVg, G⟩
  cases he
  replace kp := G.has kp
  replace kg1 := G.has kg1
  replace kg2 := G.has kg2
  replace kg3 := G.has kg3
  replace HW := HW.gro G
  replace GG := GG.tg G
  clear G
  refine nr ?_; intro U h; simp only [z0, z1] at h; subst h
  refine zR 84 rfl rfl 50 1 _ rfl [(0, .agg (c46 1 zF 0 false id zF 0 mi mn pi pn s1g s2g zF 0 zF s3g 0 0 ⟨aog, 0, capg⟩))] rfl (c46 1 zF 0 false id zF 0 mi mn pi pn s1g s2g zF 0 zF s3g 0 0 ⟨aog, 0, capg⟩) 46 (by kernel_rfl) ?_
  intro w9 g4 G eg4 kg4
  have bg4 := jz GG eg4
  have dpg4 := jf kp eg4
  have dg1g4 := jf kg1 eg4
  have dg2g4 := jf kg2 eg4
  have dg3g4 := jf kg3 eg4
  replace kp := G.has kp
  replace kg1 := G.has kg1
  replace kg2 := G.has kg2
  replace kg3 := G.has kg3
  replace HW := HW.gro G
  replace HVg := HVg.gro G
  replace GG := GG.tg G
  clear G eg4
  refine sv 85 (.agg (c59 false true Sl.nil false ⟨some ⟨g4, 0, none⟩, 1, 1⟩)) (jA 59 _ rfl [(0, vFa), (1, vTr), (4, .slice (some ⟨g4, 0, none⟩) 1 1)] rfl _ (by kernel_rfl)) ?_
  refine jo rfl rfl 59 _ _ rfl g3 0 rfl (.agg (c59 false true Sl.nil false ⟨some ⟨g4, 0, none⟩, 1, 1⟩)) rfl 59 _ kg3 (c59 false true Sl.nil false ⟨some ⟨g4, 0, none⟩, 1, 1⟩) rfl (by kernel_rfl) (nlB rfl) (by kernel_rfl) (c59 false true Sl.nil false ⟨some ⟨g4, 0, none⟩, 1, 1⟩) (by kernel_rfl) ?_
  intro w11 St
  replace kp := St.has (by omega) kp
  replace kg1 := St.has (by omega) kg1
  replace kg2 := St.has (by omega) kg2
  replace kg4 := St.has (by omega) kg4
  replace HW := HW.stT (by decide) (by decide) (by decide) kg3 St
  replace HVg := HVg.no5 ((GroS.refl [g3] _).st St (.inr (by simp))) (jv kg3 (by decide))
  replace GG := GG.st St (.inl bg3)
  replace kg3 := St.new
  clear St
  refine wpList_nil (ja (wp_ret ?_))
  refine bodyPost_ret (results_cell_row Try.results44 _ _ g3 59 _ (0, 0) _ rfl kg3 Try.underlying59 rfl (by kernel_rfl)) rfl ?_
  exact ⟨_, (p :: wp :: blk ro), (txb q), rfl, TV.one (f := pfr ⟨1, id, mi, mn, pi, pn, 0, []⟩ s1g s2g s3g ⟨aog, 0, capg⟩) kg4 HVg, ⟨wp, B, ro, rc, q, ⟨kp, HW⟩, rfl, rfl, rfl⟩, GG.p1, Fresh.refl _ _, Fresh.refl _ _⟩
theorem uK (w : World) (p wp B : Nat) (id : Nat → Nat) (up : Bool) (mi mn pi pn : Int) (oth : Nat → Nat) (ro : Option Addr) (rc : Nat) (q : List RV) (k c : Nat) (H : EW w p wp B id up false mi mn pi pn oth ro rc q k c) (fi fn ti tn : Int) (a : Nat → Nat) (ni nn : Int) (hl : decide (cmpP fi fn pi pn < 0) = false) (hz : (decide (fi = 0) && decide (fn = 0)) = false) (hg : decide (0 < cmpP fi fn pi pn) = true) (hs : (decide (ti = mi) && decide (tn = mn)) = false) : Calls Try.prog 44 #[pK p 0, .agg (c110 fi fn ti tn a), .agg (c29 ni nn)] w (HearP w p id (p :: wp :: blk ro) (txb q) (⟨up, false, mi, mn, fi, fn, a, 0, [], 0⟩, ⟨false, false, [], false, [⟨1, id, mi, mn, fi, fn, 0, []⟩]⟩)) := by
  refine jq Try.func44 rfl Try.ntmps44 [pK p 0, .agg (c110 fi fn ti tn a), .agg (c29 ni nn)] ?_
  intro U h; simp only [List.length_cons, List.length_nil, List.cons_append, List.nil_append, Nat.reduceAdd, Nat.reduceSub, List.reduceReplicate] at h; subst h
  have GG := GroS.refl [p] w
  have kp := H.box
  have HW := H.win
  have hpl := jm kp
  refine wp_seq (wp_region_lit ?_)
  refine jE 4 rfl rfl 110 _ rfl _ rfl (c110 fi fn ti tn a) rfl ?_
  intro w1 g1 G eg1 kg1
  have bg1 := jz GG eg1
  have dpg1 := jf kp eg1
  replace kp := G.has kp
  replace HW := HW.gro G
  replace GG := GG.tg G
  clear G eg1
  refine jE 5 rfl rfl 29 _ rfl _ rfl (c29 ni nn) rfl ?_
  intro w2 g2 G eg2 kg2
  have bg2 := jz GG eg2
  have dpg2 := jf kp eg2
  have dg1g2 := jf kg1 eg2
  replace kp := G.has kp
  replace kg1 := G.has kg1
  replace HW := HW.gro G
  replace GG := GG.tg G
  clear G eg2
  refine js 6 rfl rfl 59 rfl _ zv59 _ rfl ?_
  intro w3 g3 G eg3 kg3
  have bg3 := jz GG eg3
  have dpg3 := jf kp eg3
  have dg1g3 := jf kg1 eg3
  have dg2g3 := jf kg2 eg3
  replace kp := G.has kp
  replace kg1 := G.has kg1
  replace kg2 := G.has kg2
  replace HW := HW.gro G
  replace GG := GG.tg G
  clear G eg3
  refine nr ?_; intro U h; simp only [z0, z1] at h; subst h
  refine wpList_nil (ja (wp_seq ?_))
  refine jw (A := ?Ax9) 6 [(0, 11), (1, 12), (2, 13), (3, 14), (4, 15), (5, 16)] [.val (pK g1 0), .val (.agg (c29 fi fn)), .val (pK p 0), .val (pK p 0), .val (pK p 20), .val (.agg (c29 pi pn))] follows (by kernel_rfl) rfl ?hAx9 (jd ?o0x9 (jd ?o1x9 (jd ?o2x9 (jd ?o3x9 (jd ?o4x9 (jd ?o5x9 jM)))))) ?restx9
  case hAx9 =>
    intro ptrs
    simp only [full, foldSlots, filledE, postE, List.foldl_cons, List.foldl_nil, List.getD_cons_zero, List.getD_cons_succ, ju, List.set_cons_zero, List.set_cons_succ]
    exact rfl
  case o0x9 => exact fun _ _ hw _ => jb (v := pK g1 0) rfl (jc 110 _ 0 rfl _ _ rfl _)
  case o1x9 => exact fun _ _ hw _ => jb (v := .agg (c29 fi fn)) rfl (jk 29 _ rfl g1 0 2 rfl 110 _ (hw.has kg1) _ Try.underlying29 rfl si29 _)
  case o2x9 => exact fun _ _ _ _ => jj (v := pK p 0) _ rfl rfl rfl
  case o3x9 => exact fun _ _ hw _ => jb (v := pK p 0) rfl (jl _ rfl _ rfl)
  case o4x9 => exact fun _ _ hw _ => jb (v := pK p 20) rfl (jc 98 _ 4 rfl _ _ rfl _)
  case o5x9 => exact fun _ _ hw _ => jb (v := .agg (c29 pi pn)) rfl (jk 29 _ rfl p 20 2 rfl 98 _ (hw.has kp) _ Try.underlying29 rfl si29 _)
  intro ptrs w4 GD hxE
  simp only [List.drop_succ_cons, List.drop_zero]
  replace kp := GD.has kp
  replace kg1 := GD.has kg1
  replace kg2 := GD.has kg2
  replace kg3 := GD.has kg3
  replace HW := HW.gro ((Gro.refl _).drew.trans GD)
  replace GG := GG.drew.tg GD
  clear GD
  refine jC 17 rfl rfl _ 55 Try.call55 rfl rfl _ rfl [.agg (c29 fi fn), .agg (c29 pi pn)] rfl (zo _ fi fn pi pn) ?_
  intro w5 G
  replace kp := G.has kp
  replace kg1 := G.has kg1
  replace kg2 := G.has kg2
  replace kg3 := G.has kg3
  replace HW := HW.gro G
  replace GG := GG.tg G
  clear G
  refine mv 7 (iK (cmpP fi fn pi pn)) (wpList_nil (ja (wp_seq (wp_seq ?_))))
  refine jr ?_
  intro OPS hY
  have y2 := hY 2 20 rfl
  clear hY
  refine mv 18 (iK (cmpP fi fn pi pn)) ?_
  refine nr ?_; intro U h; simp only [z0, z1] at h; subst h
  refine sv 19 (vFa) (jP 3 _ _ _ rfl (cmpP fi fn pi pn) 0 rfl rfl false hl _) (mv 20 (vFa) (jn 21 rfl rfl y2 rfl (pK g1 0) (jc 110 _ 0 rfl _ _ rfl _) ?_))
  refine nr ?_; intro U h; simp only [z0, z1] at h; subst h
  refine jn 22 rfl rfl y2 rfl (.agg (c29 fi fn)) (jk 29 _ rfl g1 0 2 rfl 110 _ kg1 _ Try.underlying29 rfl si29 _) (jn 23 rfl rfl y2 rfl (.agg (c29 0 0)) (jA 29 _ rfl [] rfl _ (by kernel_rfl)) (jn 24 rfl rfl y2 rfl (vFa) (jW _ _ _ rfl fi fn 0 0 rfl rfl false (hz) _) ?_))
  refine nr ?_; intro U h; simp only [z0, z1] at h; subst h
  refine mv 25 (vFa) (wpList_nil (ja (wp_cond_false rfl (wp_skip (ja (wp_seq ?_))))))
  refine jr ?_
  intro OPS hY
  have y2 := hY 2 29 rfl
  clear hY
  refine mv 27 (iK (cmpP fi fn pi pn)) (sv 28 (vTr) (jD 3 _ _ _ rfl (cmpP fi fn pi pn) 0 rfl rfl true hg _) ?_)
  refine nr ?_; intro U h; simp only [z0, z1] at h; subst h
  refine mv 29 (vTr) (jn 30 rfl rfl y2 rfl (pK p 0) (rfl) (jn 31 rfl rfl y2 rfl (pK p 0) (jl _ rfl _ rfl) ?_))
  refine nr ?_; intro U h; simp only [z0, z1] at h; subst h
  refine jn 32 rfl rfl y2 rfl (pK p 17) (jc 98 _ 2 rfl _ _ rfl _) (jn 33 rfl rfl y2 rfl (vFa) (je 4 _ rfl p 17 rfl 98 _ kp (na4 _) _ rfl) (mv 34 (vFa) ?_))
  refine nr ?_; intro U h; simp only [z0, z1] at h; subst h
  refine mv 8 (vFa) (wpList_nil (ja (wp_seq (wp_seq (wp_region_lit (mv 35 (vFa) (wpList_nil (ja (wp_cond_false rfl (wp_skip (ja (wp_seq (wp_seq (wp_region_lit (mv 40 (iK (cmpP fi fn pi pn)) ?_)))))))))))))))
  refine nr ?_; intro U h; simp only [z0, z1] at h; subst h
  refine sv 41 (vTr) (jD 3 _ _ _ rfl (cmpP fi fn pi pn) 0 rfl rfl true hg _) (wpList_nil (ja (wp_cond_true rfl ?_)))
  clear HW
  refine jJ (A := ?Ap1) (fun L x => GroS [p] w x ∧ x.heap[p]? = some (.cells (cond (L 17) (c98 id up false mi mn fi fn a (some ⟨wp, 0, none⟩)) (cond (L 14) (c98 id up false mi mn fi fn oth (some ⟨wp, 0, none⟩)) (cond (L 11) (c98 id up false mi mn pi pn oth (some ⟨wp, 0, none⟩)) (c98 id up false mi mn pi pn oth (some ⟨wp, 0, none⟩))))) 98 (0, 0)) ∧ x.heap[g1]? = some (.cells (c110 fi fn ti tn a) 110 (0, 0)) ∧ x.heap[g2]? = some (.cells (c29 ni nn) 29 (0, 0)) ∧ x.heap[g3]? = some (.cells (c59 false false Sl.nil false Sl.nil) 59 (0, 0))) 18 [(0, 42), (1, 43), (2, 44), (3, 45), (4, 46), (5, 47), (6, 48), (7, 49), (8, 50), (9, 51), (10, 52), (12, 53), (13, 54), (15, 55), (16, 56)] [.val (pK p 0), .val (pK p 0), .val (pK p 0), .val (pK p 0), .val (pK g1 0), .val (.agg (c29 fi fn)), .val (pK g1 4), .val (.agg (c23 a)), nwE w.heap.size, .val (pK p 0), .val (pK p 17), .val undef, .val (pK p 0), .val (pK p 20), .val undef, .val (pK p 0), .val (pK p 22), .val undef] [] [8] follows (by kernel_rfl) rfl (by kernel_rfl) (by decide) ⟨GG.drew, (Gro.refl _).drew.has kp, (Gro.refl _).drew.has kg1, (Gro.refl _).drew.has kg2, (Gro.refl _).drew.has kg3⟩ ?hAp1 (ji (fun _ _ _ h _ G => ⟨h.1.tg G, G.has h.2.1, G.has h.2.2.1, G.has h.2.2.2.1, G.has h.2.2.2.2⟩) ?o0p1 (ji (fun _ _ _ h _ G => ⟨h.1.tg G, G.has h.2.1, G.has h.2.2.1, G.has h.2.2.2.1, G.has h.2.2.2.2⟩) ?o1p1 (ji (fun _ _ _ h _ G => ⟨h.1.tg G, G.has h.2.1, G.has h.2.2.1, G.has h.2.2.2.1, G.has h.2.2.2.2⟩) ?o2p1 (ji (fun _ _ _ h _ G => ⟨h.1.tg G, G.has h.2.1, G.has h.2.2.1, G.has h.2.2.2.1, G.has h.2.2.2.2⟩) ?o3p1 (ji (fun _ _ _ h _ G => ⟨h.1.tg G, G.has h.2.1, G.has h.2.2.1, G.has h.2.2.2.1, G.has h.2.2.2.2⟩) ?o4p1 (ji (fun _ _ _ h _ G => ⟨h.1.tg G, G.has h.2.1, G.has h.2.2.1, G.has h.2.2.2.1, G.has h.2.2.2.2⟩) ?o5p1 (ji (fun _ _ _ h _ G => ⟨h.1.tg G, G.has h.2.1, G.has h.2.2.1, G.has h.2.2.2.1, G.has h.2.2.2.2⟩) ?o6p1 (ji (fun _ _ _ h _ G => ⟨h.1.tg G, G.has h.2.1, G.has h.2.2.1, G.has h.2.2.2.1, G.has h.2.2.2.2⟩) ?o7p1 (ji (fun _ _ _ h _ G => ⟨h.1.tg G, G.has h.2.1, G.has h.2.2.1, G.has h.2.2.2.1, G.has h.2.2.2.2⟩) ?o8p1 (ji (fun _ _ _ h _ G => ⟨h.1.tg G, G.has h.2.1, G.has h.2.2.1, G.has h.2.2.2.1, G.has h.2.2.2.2⟩) ?o9p1 (ji (fun _ _ _ h _ G => ⟨h.1.tg G, G.has h.2.1, G.has h.2.2.1, G.has h.2.2.2.1, G.has h.2.2.2.2⟩) ?o10p1 (jX ?o11p1 (ji (fun _ _ _ h _ G => ⟨h.1.tg G, G.has h.2.1, G.has h.2.2.1, G.has h.2.2.2.1, G.has h.2.2.2.2⟩) ?o12p1 (ji (fun _ _ _ h _ G => ⟨h.1.tg G, G.has h.2.1, G.has h.2.2.1, G.has h.2.2.2.1, G.has h.2.2.2.2⟩) ?o13p1 (jX ?o14p1 (ji (fun _ _ _ h _ G => ⟨h.1.tg G, G.has h.2.1, G.has h.2.2.1, G.has h.2.2.2.1, G.has h.2.2.2.2⟩) ?o15p1 (ji (fun _ _ _ h _ G => ⟨h.1.tg G, G.has h.2.1, G.has h.2.2.1, G.has h.2.2.2.1, G.has h.2.2.2.2⟩) ?o16p1 (jX ?o17p1 zc)))))))))))))))))) ?restp1
  case hAp1 =>
    intro ptrs
    simp only [full, foldSlots, filledE, postE, List.foldl_cons, List.foldl_nil, List.getD_cons_zero, List.getD_cons_succ, ju, yW,  List.set_cons_zero, List.set_cons_succ]
    exact rfl
  case o0p1 => exact fun _ _ _ _ _ _ _ _ => jj (v := pK p 0) _ rfl rfl rfl
  case o1p1 => exact fun _ _ _ _ _ _ _ _ => jj (v := pK p 0) _ rfl rfl rfl
  case o2p1 => exact fun _ _ _ _ _ _ _ _ => jj (v := pK p 0) _ rfl rfl rfl
  case o3p1 => exact fun _ _ _ _ _ _ _ _ => jj (v := pK p 0) _ rfl rfl rfl
  case o4p1 => exact fun _ _ x hx _ _ _ _ => jb (v := pK g1 0) rfl (jc 110 _ 0 rfl _ _ rfl _)
  case o5p1 => exact fun _ _ x hx _ _ _ _ => jb (v := .agg (c29 fi fn)) rfl (jk 29 _ rfl g1 0 2 rfl 110 _ hx.2.2.1 _ Try.underlying29 rfl si29 _)
  case o6p1 => exact fun _ _ x hx _ _ _ _ => jb (v := pK g1 4) rfl (jc 110 _ 2 rfl _ _ rfl _)
  case o7p1 => exact fun _ _ x hx _ _ _ _ => jb (v := .agg (c23 a)) rfl (jk 23 _ rfl g1 4 16 rfl 110 _ hx.2.2.1 _ Try.underlying23 rfl si23 _)
  case o8p1 =>
    intro _ _ x hx _ _ _ _
    exact zK (nwE w.heap.size) rfl _ 34 Try.call34 rfl rfl _ rfl [] rfl ((yT _).mono fun e w' ⟨g, he, hg, hz, hk⟩ => ⟨_, he, hg, g, rfl, Nat.le_trans hx.1.size hz, hk.base0 hx.1.size⟩)
  case o9p1 => exact fun _ _ x hx _ _ _ _ => jb (v := pK p 0) rfl (jl _ rfl _ rfl)
  case o10p1 => exact fun _ _ x hx _ _ _ _ => jb (v := pK p 17) rfl (jc 98 _ 2 rfl _ _ rfl _)
  case o11p1 =>
    intro L ptrs x hx hL hed hno _
    have hk := hx.2.1
    have h14 : L 14 = false := hno 14 (by kernel_rfl)
    have h17 : L 17 = false := hno 17 (by kernel_rfl)
    rw [h17, h14, hL] at hk
    replace hk : x.heap[p]? = some (.cells (c98 id up false mi mn pi pn oth (some ⟨wp, 0, none⟩)) 98 (0, 0)) := hk
    refine zb _ rfl 4 _ _ rfl p 17 rfl (vFa) rfl 98 _ hk #[vFa] rfl (by kernel_rfl) (nlB rfl) (by kernel_rfl) (c98 id up false mi mn pi pn oth (some ⟨wp, 0, none⟩)) (by kernel_rfl) ?_
    intro y St
    exact ⟨⟨⟨hx.1.st St (.inr (by simp)), (by rw [show upd L 11 17 = false from h17, show upd L 11 14 = false from h14]; exact St.new), St.has (by omega) hx.2.2.1, St.has (by omega) hx.2.2.2.1, St.has (by omega) hx.2.2.2.2⟩, StM.valsX [0, 1, 2, 3, 4, 5, 6, 7, 9, 10, 12, 13, 14, 15, 16, 17] [8] (by kernel_rfl) ⟨⟨_, rfl⟩, ⟨_, rfl⟩, ⟨_, rfl⟩, ⟨_, rfl⟩, ⟨_, rfl⟩, ⟨_, rfl⟩, ⟨_, rfl⟩, ⟨_, rfl⟩, ⟨_, rfl⟩, ⟨_, rfl⟩, ⟨_, rfl⟩, ⟨_, rfl⟩, ⟨_, rfl⟩, ⟨_, rfl⟩, ⟨_, rfl⟩, ⟨_, rfl⟩, trivial⟩ (fun j hj u hp => by cases List.mem_singleton.1 hj; obtain ⟨g, h1, h2, h3⟩ := hp; exact ⟨g, h1, h2, h3.stT (by decide) (by decide) (by decide) hk St⟩)⟩, rfl⟩
  case o12p1 => exact fun _ _ x hx _ _ _ _ => jb (v := pK p 0) rfl (jl _ rfl _ rfl)
  case o13p1 => exact fun _ _ x hx _ _ _ _ => jb (v := pK p 20) rfl (jc 98 _ 4 rfl _ _ rfl _)
  case o14p1 =>
    intro L ptrs x hx hL hed hno _
    have hk := hx.2.1
    have h11 : L 11 = true := hed 11 (by kernel_rfl)
    have h17 : L 17 = false := hno 17 (by kernel_rfl)
    rw [h17, hL, h11] at hk
    replace hk : x.heap[p]? = some (.cells (c98 id up false mi mn pi pn oth (some ⟨wp, 0, none⟩)) 98 (0, 0)) := hk
    refine zb _ rfl 29 _ _ rfl p 20 rfl (.agg (c29 fi fn)) rfl 98 _ hk (c29 fi fn) rfl (by kernel_rfl) (nlB rfl) (by kernel_rfl) (c98 id up false mi mn fi fn oth (some ⟨wp, 0, none⟩)) (by kernel_rfl) ?_
    intro y St
    exact ⟨⟨⟨hx.1.st St (.inr (by simp)), (by rw [show upd L 14 17 = false from h17]; exact St.new), St.has (by omega) hx.2.2.1, St.has (by omega) hx.2.2.2.1, St.has (by omega) hx.2.2.2.2⟩, StM.valsX [0, 1, 2, 3, 4, 5, 6, 7, 9, 10, 11, 12, 13, 15, 16, 17] [8] (by kernel_rfl) ⟨⟨_, rfl⟩, ⟨_, rfl⟩, ⟨_, rfl⟩, ⟨_, rfl⟩, ⟨_, rfl⟩, ⟨_, rfl⟩, ⟨_, rfl⟩, ⟨_, rfl⟩, ⟨_, rfl⟩, ⟨_, rfl⟩, ⟨_, rfl⟩, ⟨_, rfl⟩, ⟨_, rfl⟩, ⟨_, rfl⟩, ⟨_, rfl⟩, ⟨_, rfl⟩, trivial⟩ (fun j hj u hp => by cases List.mem_singleton.1 hj; obtain ⟨g, h1, h2, h3⟩ := hp; exact ⟨g, h1, h2, h3.stT (by decide) (by decide) (by decide) hk St⟩)⟩, rfl⟩
  case o15p1 => exact fun _ _ x hx _ _ _ _ => jb (v := pK p 0) rfl (jl _ rfl _ rfl)
  case o16p1 => exact fun _ _ x hx _ _ _ _ => jb (v := pK p 22) rfl (jc 98 _ 5 rfl _ _ rfl _)
  case o17p1 =>
    intro L ptrs x hx hL hed hno _
    have hk := hx.2.1
    have h11 : L 11 = true := hed 11 (by kernel_rfl)
    have h14 : L 14 = true := hed 14 (by kernel_rfl)
    rw [hL, h14, h11] at hk
    replace hk : x.heap[p]? = some (.cells (c98 id up false mi mn fi fn oth (some ⟨wp, 0, none⟩)) 98 (0, 0)) := hk
    refine zb _ rfl 23 _ _ rfl p 22 rfl (.agg (c23 a)) rfl 98 _ hk (c23 a) rfl (by kernel_rfl) (nlB rfl) (by kernel_rfl) (c98 id up false mi mn fi fn a (some ⟨wp, 0, none⟩)) (by kernel_rfl) ?_
    intro y St
    exact ⟨⟨⟨hx.1.st St (.inr (by simp)), St.new, St.has (by omega) hx.2.2.1, St.has (by omega) hx.2.2.2.1, St.has (by omega) hx.2.2.2.2⟩, StM.valsX [0, 1, 2, 3, 4, 5, 6, 7, 9, 10, 11, 12, 13, 14, 15, 16] [8] (by kernel_rfl) ⟨⟨_, rfl⟩, ⟨_, rfl⟩, ⟨_, rfl⟩, ⟨_, rfl⟩, ⟨_, rfl⟩, ⟨_, rfl⟩, ⟨_, rfl⟩, ⟨_, rfl⟩, ⟨_, rfl⟩, ⟨_, rfl⟩, ⟨_, rfl⟩, ⟨_, rfl⟩, ⟨_, rfl⟩, ⟨_, rfl⟩, ⟨_, rfl⟩, ⟨_, rfl⟩, trivial⟩ (fun j hj u hp => by cases List.mem_singleton.1 hj; obtain ⟨g, h1, h2, h3⟩ := hp; exact ⟨g, h1, h2, h3.stT (by decide) (by decide) (by decide) hk St⟩)⟩, rfl⟩
  intro ptrs w6 HJ hxE
  simp only [List.drop_succ_cons, List.drop_zero]
  clear GG kp kg1 kg2 kg3
  obtain ⟨GG, kp, kg1, kg2, kg3⟩ := HJ
  replace kp : w6.heap[p]? = some (.cells (c98 id up false mi mn fi fn a (some ⟨wp, 0, none⟩)) 98 (0, 0)) := kp
  obtain ⟨⟨wp2, hv, hwp2, HW2⟩, _⟩ := hxE
  simp only [hv]
  clear hv hxE
  refine sv 57 (pK p 0) (jl _ rfl _ rfl) (sv 58 (pK p 38) (jc 98 _ 6 rfl _ _ rfl _) ?_)
  refine nr ?_; intro U h; simp only [z0, z1] at h; subst h
  refine jo rfl rfl 95 _ _ rfl p 38 rfl (pK wp2 0) rfl 98 _ kp #[pK wp2 0] rfl (by kernel_rfl) (nlB rfl) (by kernel_rfl) (c98 id up false mi mn fi fn a (some ⟨wp2, 0, none⟩)) (by kernel_rfl) ?_
  intro w8 St
  replace kg1 := St.has (by omega) kg1
  replace kg2 := St.has (by omega) kg2
  replace kg3 := St.has (by omega) kg3
  replace HW2 := HW2.stT (by decide) (by decide) (by decide) kp St
  replace GG := GG.st St (.inr (by simp))
  replace kp := St.new
  clear St
  refine wpList_nil (ja (wp_seq ?_))
  refine jw (A := ?Ax10) 6 [(0, 59), (1, 60), (2, 61), (3, 62), (4, 63), (5, 64)] [.val (pK g1 2), .val (.agg (c29 ti tn)), .val (pK p 0), .val (pK p 0), .val (pK p 18), .val (.agg (c29 mi mn))] follows (by kernel_rfl) rfl ?hAx10 (jd ?o0x10 (jd ?o1x10 (jd ?o2x10 (jd ?o3x10 (jd ?o4x10 (jd ?o5x10 jM)))))) ?restx10
  case hAx10 =>
    intro ptrs
    simp only [full, foldSlots, filledE, postE, List.foldl_cons, List.foldl_nil, List.getD_cons_zero, List.getD_cons_succ, ju, List.set_cons_zero, List.set_cons_succ]
    exact rfl
  case o0x10 => exact fun _ _ hw _ => jb (v := pK g1 2) rfl (jc 110 _ 1 rfl _ _ rfl _)
  case o1x10 => exact fun _ _ hw _ => jb (v := .agg (c29 ti tn)) rfl (jk 29 _ rfl g1 2 2 rfl 110 _ (hw.has kg1) _ Try.underlying29 rfl si29 _)
  case o2x10 => exact fun _ _ _ _ => jj (v := pK p 0) _ rfl rfl rfl
  case o3x10 => exact fun _ _ hw _ => jb (v := pK p 0) rfl (jl _ rfl _ rfl)
  case o4x10 => exact fun _ _ hw _ => jb (v := pK p 18) rfl (jc 98 _ 3 rfl _ _ rfl _)
  case o5x10 => exact fun _ _ hw _ => jb (v := .agg (c29 mi mn)) rfl (jk 29 _ rfl p 18 2 rfl 98 _ (hw.has kp) _ Try.underlying29 rfl si29 _)
  intro ptrs w9 GD hxE
  simp only [List.drop_succ_cons, List.drop_zero]
  replace kp := GD.has kp
  replace kg1 := GD.has kg1
  replace kg2 := GD.has kg2
  replace kg3 := GD.has kg3
  replace HW2 := HW2.gro ((Gro.refl _).drew.trans GD)
  replace GG := GG.drew.tg GD
  clear GD
  refine sv 65 (vFa) (jW _ _ _ rfl ti tn mi mn rfl rfl false (hs) _) (mv 9 (vFa) (wpList_nil (ja (wp_seq ?_))))
  refine jr ?_
  intro OPS hY
  have y1 := hY 1 67 rfl
  clear hY
  refine mv 66 (vFa) ?_
  refine nr ?_; intro U h; simp only [z0, z1] at h; subst h
  refine mv 67 (vFa) (jO 68 rfl rfl y1 rfl (jO 69 rfl rfl y1 rfl ?_))
  refine nr ?_; intro U h; simp only [z0, z1] at h; subst h
  refine mv 70 (vFa) (mv 10 (vFa) (wpList_nil (ja (wp_seq (wp_seq ?_)))))
  refine jr ?_
  intro OPS hY
  have y1 := hY 1 72 rfl
  clear hY
  refine mv 71 (vFa) ?_
  refine nr ?_; intro U h; simp only [z0, z1] at h; subst h
  refine mv 72 (vFa) (jO 73 rfl rfl y1 rfl (jO 74 rfl rfl y1 rfl ?_))
  refine nr ?_; intro U h; simp only [z0, z1] at h; subst h
  refine mv 75 (vFa) (wpList_nil (ja (wp_cond_false rfl (wp_skip (ja (wp_seq (wp_region_lit (mv 80 (vFa) (mv 81 (vFa) ?_)))))))))
  refine nr ?_; intro U h; simp only [z0, z1] at h; subst h
  refine mv 82 (pK p 0) ?_
  refine jt 83 rfl rfl _ 35 Try.call35 rfl rfl _ rfl [pK p 0] rfl (zn _ p wp2 w.heap.size id up false mi mn fi fn a none 0 [] 0 0 ⟨kp, HW2⟩) (fun _ _ ⟨_, _, _, _, _, he, _⟩ => ⟨_, he⟩) ?_
  rintro v w10 ⟨s1g, s2g, s3g, aog, capg, he, HVg, G⟩
  cases he
  replace kp := G.has kp
  replace kg1 := G.has kg1
  replace kg2 := G.has kg2
  replace kg3 := G.has kg3
  replace HW2 := HW2.gro G
  replace GG := GG.tg G
  clear G
  refine zR 84 rfl rfl 50 1 _ rfl [(0, .agg (c46 1 zF 0 false id zF 0 mi mn fi fn s1g s2g zF 0 zF s3g 0 0 ⟨aog, 0, capg⟩))] rfl (c46 1 zF 0 false id zF 0 mi mn fi fn s1g s2g zF 0 zF s3g 0 0 ⟨aog, 0, capg⟩) 46 (by kernel_rfl) ?_
  intro w11 g4 G eg4 kg4
  have bg4 := jz GG eg4
  have dpg4 := jf kp eg4
  have dg1g4 := jf kg1 eg4
  have dg2g4 := jf kg2 eg4
  have dg3g4 := jf kg3 eg4
  replace kp := G.has kp
  replace kg1 := G.has kg1
  replace kg2 := G.has kg2
  replace kg3 := G.has kg3
  replace HW2 := HW2.gro G
  replace HVg := HVg.gro G
  replace GG := GG.tg G
  clear G eg4
  refine nr ?_; intro U h; simp only [z0, z1] at h; subst h
  refine sv 85 (.agg (c59 false false Sl.nil false ⟨some ⟨g4, 0, none⟩, 1, 1⟩)) (jA 59 _ rfl [(0, vFa), (1, vFa), (4, .slice (some ⟨g4, 0, none⟩) 1 1)] rfl _ (by kernel_rfl)) ?_
  refine jo rfl rfl 59 _ _ rfl g3 0 rfl (.agg (c59 false false Sl.nil false ⟨some ⟨g4, 0, none⟩, 1, 1⟩)) rfl 59 _ kg3 (c59 false false Sl.nil false ⟨some ⟨g4, 0, none⟩, 1, 1⟩) rfl (by kernel_rfl) (nlB rfl) (by kernel_rfl) (c59 false false Sl.nil false ⟨some ⟨g4, 0, none⟩, 1, 1⟩) (by kernel_rfl) ?_
  intro w13 St
  replace kp := St.has (by omega) kp
  replace kg1 := St.has (by omega) kg1
  replace kg2 := St.has (by omega) kg2
  replace kg4 := St.has (by omega) kg4
  replace HW2 := HW2.stT (by decide) (by decide) (by decide) kg3 St
  replace HVg := HVg.no5 ((GroS.refl [g3] _).st St (.inr (by simp))) (jv kg3 (by decide))
  replace GG := GG.st St (.inl bg3)
  replace kg3 := St.new
  clear St
  refine wpList_nil (ja (wp_ret ?_))
  refine bodyPost_ret (results_cell_row Try.results44 _ _ g3 59 _ (0, 0) _ rfl kg3 Try.underlying59 rfl (by kernel_rfl)) rfl ?_
  exact ⟨_, (p :: wp2 :: blk none), [], rfl, TV.one (f := pfr ⟨1, id, mi, mn, fi, fn, 0, []⟩ s1g s2g s3g ⟨aog, 0, capg⟩) kg4 HVg, ⟨wp2, _, none, 0, [], ⟨kp, HW2⟩, rfl, rfl, rfl⟩, GG.p1, Fresh.win hwp2, Fresh.nil0 _ _⟩
theorem yL (w : World) (p wp B : Nat) (id : Nat → Nat) (up : Bool) (mi mn pi pn : Int) (oth : Nat → Nat) (ro : Option Addr) (rc : Nat) (q : List RV) (k c : Nat) (H : EW w p wp B id up false mi mn pi pn oth ro rc q k c) (fi fn ti tn : Int) (a : Nat → Nat) (ni nn : Int) (hl : decide (cmpP fi fn pi pn < 0) = false) (hz : (decide (fi = 0) && decide (fn = 0)) = false) (hg : decide (0 < cmpP fi fn pi pn) = true) (hs : (decide (ti = mi) && decide (tn = mn)) = true) : Calls Try.prog 44 #[pK p 0, .agg (c110 fi fn ti tn a), .agg (c29 ni nn)] w (HearP w p id (p :: wp :: blk ro) (txb q) (⟨up, true, mi, mn, fi, fn, a, 0, [], 0⟩, ⟨false, true, [], false, [⟨1, id, mi, mn, fi, fn, 0, []⟩]⟩)) := by
  refine jq Try.func44 rfl Try.ntmps44 [pK p 0, .agg (c110 fi fn ti tn a), .agg (c29 ni nn)] ?_
  intro U h; simp only [List.length_cons, List.length_nil, List.cons_append, List.nil_append, Nat.reduceAdd, Nat.reduceSub, List.reduceReplicate] at h; subst h
  have GG := GroS.refl [p] w
  have kp := H.box
  have HW := H.win
  have hpl := jm kp
  refine wp_seq (wp_region_lit ?_)
  refine jE 4 rfl rfl 110 _ rfl _ rfl (c110 fi fn ti tn a) rfl ?_
  intro w1 g1 G eg1 kg1
  have bg1 := jz GG eg1
  have dpg1 := jf kp eg1
  replace kp := G.has kp
  replace HW := HW.gro G
  replace GG := GG.tg G
  clear G eg1
  refine jE 5 rfl rfl 29 _ rfl _ rfl (c29 ni nn) rfl ?_
  intro w2 g2 G eg2 kg2
  have bg2 := jz GG eg2
  have dpg2 := jf kp eg2
  have dg1g2 := jf kg1 eg2
  replace kp := G.has kp
  replace kg1 := G.has kg1
  replace HW := HW.gro G
  replace GG := GG.tg G
  clear G eg2
  refine js 6 rfl rfl 59 rfl _ zv59 _ rfl ?_
  intro w3 g3 G eg3 kg3
  have bg3 := jz GG eg3
  have dpg3 := jf kp eg3
  have dg1g3 := jf kg1 eg3
  have dg2g3 := jf kg2 eg3
  replace kp := G.has kp
  replace kg1 := G.has kg1
  replace kg2 := G.has kg2
  replace HW := HW.gro G
  replace GG := GG.tg G
  clear G eg3
  refine nr ?_; intro U h; simp only [z0, z1] at h; subst h
  refine wpList_nil (ja (wp_seq ?_))
  refine jw (A := ?Ax11) 6 [(0, 11), (1, 12), (2, 13), (3, 14), (4, 15), (5, 16)] [.val (pK g1 0), .val (.agg (c29 fi fn)), .val (pK p 0), .val (pK p 0), .val (pK p 20), .val (.agg (c29 pi pn))] follows (by kernel_rfl) rfl ?hAx11 (jd ?o0x11 (jd ?o1x11 (jd ?o2x11 (jd ?o3x11 (jd ?o4x11 (jd ?o5x11 jM)))))) ?restx11
  case hAx11 =>
    intro ptrs
    simp only [full, foldSlots, filledE, postE, List.foldl_cons, List.foldl_nil, List.getD_cons_zero, List.getD_cons_succ, ju, List.set_cons_zero, List.set_cons_succ]
    exact rfl
  case o0x11 => exact fun _ _ hw _ => jb (v := pK g1 0) rfl (jc 110 _ 0 rfl _ _ rfl _)
  case o1x11 => exact fun _ _ hw _ => jb (v := .agg (c29 fi fn)) rfl (jk 29 _ rfl g1 0 2 rfl 110 _ (hw.has kg1) _ Try.underlying29 rfl si29 _)
  case o2x11 => exact fun _ _ _ _ => jj (v := pK p 0) _ rfl rfl rfl
  case o3x11 => exact fun _ _ hw _ => jb (v := pK p 0) rfl (jl _ rfl _ rfl)
  case o4x11 => exact fun _ _ hw _ => jb (v := pK p 20) rfl (jc 98 _ 4 rfl _ _ rfl _)
  case o5x11 => exact fun _ _ hw _ => jb (v := .agg (c29 pi pn)) rfl (jk 29 _ rfl p 20 2 rfl 98 _ (hw.has kp) _ Try.underlying29 rfl si29 _)
  intro ptrs w4 GD hxE
  simp only [List.drop_succ_cons, List.drop_zero]
  replace kp := GD.has kp
  replace kg1 := GD.has kg1
  replace kg2 := GD.has kg2
  replace kg3 := GD.has kg3
  replace HW := HW.gro ((Gro.refl _).drew.trans GD)
  replace GG := GG.drew.tg GD
  clear GD
  refine jC 17 rfl rfl _ 55 Try.call55 rfl rfl _ rfl [.agg (c29 fi fn), .agg (c29 pi pn)] rfl (zo _ fi fn pi pn) ?_
  intro w5 G
  replace kp := G.has kp
  replace kg1 := G.has kg1
  replace kg2 := G.has kg2
  replace kg3 := G.has kg3
  replace HW := HW.gro G
  replace GG := GG.tg G
  clear G
  refine mv 7 (iK (cmpP fi fn pi pn)) (wpList_nil (ja (wp_seq (wp_seq ?_))))
  refine jr ?_
  intro OPS hY
  have y2 := hY 2 20 rfl
  clear hY
  refine mv 18 (iK (cmpP fi fn pi pn)) ?_
  refine nr ?_; intro U h; simp only [z0, z1] at h; subst h
  refine sv 19 (vFa) (jP 3 _ _ _ rfl (cmpP fi fn pi pn) 0 rfl rfl false hl _) (mv 20 (vFa) (jn 21 rfl rfl y2 rfl (pK g1 0) (jc 110 _ 0 rfl _ _ rfl _) ?_))
  refine nr ?_; intro U h; simp only [z0, z1] at h; subst h
  refine jn 22 rfl rfl y2 rfl (.agg (c29 fi fn)) (jk 29 _ rfl g1 0 2 rfl 110 _ kg1 _ Try.underlying29 rfl si29 _) (jn 23 rfl rfl y2 rfl (.agg (c29 0 0)) (jA 29 _ rfl [] rfl _ (by kernel_rfl)) (jn 24 rfl rfl y2 rfl (vFa) (jW _ _ _ rfl fi fn 0 0 rfl rfl false (hz) _) ?_))
  refine nr ?_; intro U h; simp only [z0, z1] at h; subst h
  refine mv 25 (vFa) (wpList_nil (ja (wp_cond_false rfl (wp_skip (ja (wp_seq ?_))))))
  refine jr ?_
  intro OPS hY
  have y2 := hY 2 29 rfl
  clear hY
  refine mv 27 (iK (cmpP fi fn pi pn)) (sv 28 (vTr) (jD 3 _ _ _ rfl (cmpP fi fn pi pn) 0 rfl rfl true hg _) ?_)
  refine nr ?_; intro U h; simp only [z0, z1] at h; subst h
  refine mv 29 (vTr) (jn 30 rfl rfl y2 rfl (pK p 0) (rfl) (jn 31 rfl rfl y2 rfl (pK p 0) (jl _ rfl _ rfl) ?_))
  refine nr ?_; intro U h; simp only [z0, z1] at h; subst h
  refine jn 32 rfl rfl y2 rfl (pK p 17) (jc 98 _ 2 rfl _ _ rfl _) (jn 33 rfl rfl y2 rfl (vFa) (je 4 _ rfl p 17 rfl 98 _ kp (na4 _) _ rfl) (mv 34 (vFa) ?_))
  refine nr ?_; intro U h; simp only [z0, z1] at h; subst h
  refine mv 8 (vFa) (wpList_nil (ja (wp_seq (wp_seq (wp_region_lit (mv 35 (vFa) (wpList_nil (ja (wp_cond_false rfl (wp_skip (ja (wp_seq (wp_seq (wp_region_lit (mv 40 (iK (cmpP fi fn pi pn)) ?_)))))))))))))))
  refine nr ?_; intro U h; simp only [z0, z1] at h; subst h
  refine sv 41 (vTr) (jD 3 _ _ _ rfl (cmpP fi fn pi pn) 0 rfl rfl true hg _) (wpList_nil (ja (wp_cond_true rfl ?_)))
  clear HW
  refine jJ (A := ?Ap2) (fun L x => GroS [p] w x ∧ x.heap[p]? = some (.cells (cond (L 17) (c98 id up false mi mn fi fn a (some ⟨wp, 0, none⟩)) (cond (L 14) (c98 id up false mi mn fi fn oth (some ⟨wp, 0, none⟩)) (cond (L 11) (c98 id up false mi mn pi pn oth (some ⟨wp, 0, none⟩)) (c98 id up false mi mn pi pn oth (some ⟨wp, 0, none⟩))))) 98 (0, 0)) ∧ x.heap[g1]? = some (.cells (c110 fi fn ti tn a) 110 (0, 0)) ∧ x.heap[g2]? = some (.cells (c29 ni nn) 29 (0, 0)) ∧ x.heap[g3]? = some (.cells (c59 false false Sl.nil false Sl.nil) 59 (0, 0))) 18 [(0, 42), (1, 43), (2, 44), (3, 45), (4, 46), (5, 47), (6, 48), (7, 49), (8, 50), (9, 51), (10, 52), (12, 53), (13, 54), (15, 55), (16, 56)] [.val (pK p 0), .val (pK p 0), .val (pK p 0), .val (pK p 0), .val (pK g1 0), .val (.agg (c29 fi fn)), .val (pK g1 4), .val (.agg (c23 a)), nwE w.heap.size, .val (pK p 0), .val (pK p 17), .val undef, .val (pK p 0), .val (pK p 20), .val undef, .val (pK p 0), .val (pK p 22), .val undef] [] [8] follows (by kernel_rfl) rfl (by kernel_rfl) (by decide) ⟨GG.drew, (Gro.refl _).drew.has kp, (Gro.refl _).drew.has kg1, (Gro.refl _).drew.has kg2, (Gro.refl _).drew.has kg3⟩ ?hAp2 (ji (fun _ _ _ h _ G => ⟨h.1.tg G, G.has h.2.1, G.has h.2.2.1, G.has h.2.2.2.1, G.has h.2.2.2.2⟩) ?o0p2 (ji (fun _ _ _ h _ G => ⟨h.1.tg G, G.has h.2.1, G.has h.2.2.1, G.has h.2.2.2.1, G.has h.2.2.2.2⟩) ?o1p2 (ji (fun _ _ _ h _ G => ⟨h.1.tg G, G.has h.2.1, G.has h.2.2.1, G.has h.2.2.2.1, G.has h.2.2.2.2⟩) ?o2p2 (ji (fun _ _ _ h _ G => ⟨h.1.tg G, G.has h.2.1, G.has h.2.2.1, G.has h.2.2.2.1, G.has h.2.2.2.2⟩) ?o3p2 (ji (fun _ _ _ h _ G => ⟨h.1.tg G, G.has h.2.1, G.has h.2.2.1, G.has h.2.2.2.1, G.has h.2.2.2.2⟩) ?o4p2 (ji (fun _ _ _ h _ G => ⟨h.1.tg G, G.has h.2.1, G.has h.2.2.1, G.has h.2.2.2.1, G.has h.2.2.2.2⟩) ?o5p2 (ji (fun _ _ _ h _ G => ⟨h.1.tg G, G.has h.2.1, G.has h.2.2.1, G.has h.2.2.2.1, G.has h.2.2.2.2⟩) ?o6p2 (ji (fun _ _ _ h _ G => ⟨h.1.tg G, G.has h.2.1, G.has h.2.2.1, G.has h.2.2.2.1, G.has h.2.2.2.2⟩) ?o7p2 (ji (fun _ _ _ h _ G => ⟨h.1.tg G, G.has h.2.1, G.has h.2.2.1, G.has h.2.2.2.1, G.has h.2.2.2.2⟩) ?o8p2 (ji (fun _ _ _ h _ G => ⟨h.1.tg G, G.has h.2.1, G.has h.2.2.1, G.has h.2.2.2.1, G.has h.2.2.2.2⟩) ?o9p2 (ji (fun _ _ _ h _ G => ⟨h.1.tg G, G.has h.2.1, G.has h.2.2.1, G.has h.2.2.2.1, G.has h.2.2.2.2⟩) ?o10p2 (jX ?o11p2 (ji (fun _ _ _ h _ G => ⟨h.1.tg G, G.has h.2.1, G.has h.2.2.1, G.has h.2.2.2.1, G.has h.2.2.2.2⟩) ?o12p2 (ji (fun _ _ _ h _ G => ⟨h.1.tg G, G.has h.2.1, G.has h.2.2.1, G.has h.2.2.2.1, G.has h.2.2.2.2⟩) ?o13p2 (jX ?o14p2 (ji (fun _ _ _ h _ G => ⟨h.1.tg G, G.has h.2.1, G.has h.2.2.1, G.has h.2.2.2.1, G.has h.2.2.2.2⟩) ?o15p2 (ji (fun _ _ _ h _ G => ⟨h.1.tg G, G.has h.2.1, G.has h.2.2.1, G.has h.2.2.2.1, G.has h.2.2.2.2⟩) ?o16p2 (jX ?o17p2 zc)))))))))))))))))) ?restp2
  case hAp2 =>
    intro ptrs
    simp only [full, foldSlots, filledE, postE, List.foldl_cons, List.foldl_nil, List.getD_cons_zero, List.getD_cons_succ, ju, yW,  List.set_cons_zero, List.set_cons_succ]
    exact rfl
  case o0p2 => exact fun _ _ _ _ _ _ _ _ => jj (v := pK p 0) _ rfl rfl rfl
  case o1p2 => exact fun _ _ _ _ _ _ _ _ => jj (v := pK p 0) _ rfl rfl rfl
  case o2p2 => exact fun _ _ _ _ _ _ _ _ => jj (v := pK p 0) _ rfl rfl rfl
  case o3p2 => exact fun _ _ _ _ _ _ _ _ => jj (v := pK p 0) _ rfl rfl rfl
  case o4p2 => exact fun _ _ x hx _ _ _ _ => jb (v := pK g1 0) rfl (jc 110 _ 0 rfl _ _ rfl _)
  case o5p2 => exact fun _ _ x hx _ _ _ _ => jb (v := .agg (c29 fi fn)) rfl (jk 29 _ rfl g1 0 2 rfl 110 _ hx.2.2.1 _ Try.underlying29 rfl si29 _)
  case o6p2 => exact fun _ _ x hx _ _ _ _ => jb (v := pK g1 4) rfl (jc 110 _ 2 rfl _ _ rfl _)
  case o7p2 => exact fun _ _ x hx _ _ _ _ => jb (v := .agg (c23 a)) rfl (jk 23 _ rfl g1 4 16 rfl 110 _ hx.2.2.1 _ Try.underlying23 rfl si23 _)
  case o8p2 =>
    intro _ _ x hx _ _ _ _
    exact zK (nwE w.heap.size) rfl _ 34 Try.call34 rfl rfl _ rfl [] rfl ((yT _).mono fun e w' ⟨g, he, hg, hz, hk⟩ => ⟨_, he, hg, g, rfl, Nat.le_trans hx.1.size hz, hk.base0 hx.1.size⟩)
  case o9p2 => exact fun _ _ x hx _ _ _ _ => jb (v := pK p 0) rfl (jl _ rfl _ rfl)
  case o10p2 => exact fun _ _ x hx _ _ _ _ => jb (v := pK p 17) rfl (jc 98 _ 2 rfl _ _ rfl _)
  case o11p2 =>
    intro L ptrs x hx hL hed hno _
    have hk := hx.2.1
    have h14 : L 14 = false := hno 14 (by kernel_rfl)
    have h17 : L 17 = false := hno 17 (by kernel_rfl)
    rw [h17, h14, hL] at hk
    replace hk : x.heap[p]? = some (.cells (c98 id up false mi mn pi pn oth (some ⟨wp, 0, none⟩)) 98 (0, 0)) := hk
    refine zb _ rfl 4 _ _ rfl p 17 rfl (vFa) rfl 98 _ hk #[vFa] rfl (by kernel_rfl) (nlB rfl) (by kernel_rfl) (c98 id up false mi mn pi pn oth (some ⟨wp, 0, none⟩)) (by kernel_rfl) ?_
    intro y St
    exact ⟨⟨⟨hx.1.st St (.inr (by simp)), (by rw [show upd L 11 17 = false from h17, show upd L 11 14 = false from h14]; exact St.new), St.has (by omega) hx.2.2.1, St.has (by omega) hx.2.2.2.1, St.has (by omega) hx.2.2.2.2⟩, StM.valsX [0, 1, 2, 3, 4, 5, 6, 7, 9, 10, 12, 13, 14, 15, 16, 17] [8] (by kernel_rfl) ⟨⟨_, rfl⟩, ⟨_, rfl⟩, ⟨_, rfl⟩, ⟨_, rfl⟩, ⟨_, rfl⟩, ⟨_, rfl⟩, ⟨_, rfl⟩, ⟨_, rfl⟩, ⟨_, rfl⟩, ⟨_, rfl⟩, ⟨_, rfl⟩, ⟨_, rfl⟩, ⟨_, rfl⟩, ⟨_, rfl⟩, ⟨_, rfl⟩, ⟨_, rfl⟩, trivial⟩ (fun j hj u hp => by cases List.mem_singleton.1 hj; obtain ⟨g, h1, h2, h3⟩ := hp; exact ⟨g, h1, h2, h3.stT (by decide) (by decide) (by decide) hk St⟩)⟩, rfl⟩
  case o12p2 => exact fun _ _ x hx _ _ _ _ => jb (v := pK p 0) rfl (jl _ rfl _ rfl)
  case o13p2 => exact fun _ _ x hx _ _ _ _ => jb (v := pK p 20) rfl (jc 98 _ 4 rfl _ _ rfl _)
  case o14p2 =>
    intro L ptrs x hx hL hed hno _
    have hk := hx.2.1
    have h11 : L 11 = true := hed 11 (by kernel_rfl)
    have h17 : L 17 = false := hno 17 (by kernel_rfl)
    rw [h17, hL, h11] at hk
    replace hk : x.heap[p]? = some (.cells (c98 id up false mi mn pi pn oth (some ⟨wp, 0, none⟩)) 98 (0, 0)) := hk
    refine zb _ rfl 29 _ _ rfl p 20 rfl (.agg (c29 fi fn)) rfl 98 _ hk (c29 fi fn) rfl (by kernel_rfl) (nlB rfl) (by kernel_rfl) (c98 id up false mi mn fi fn oth (some ⟨wp, 0, none⟩)) (by kernel_rfl) ?_
    intro y St
    exact ⟨⟨⟨hx.1.st St (.inr (by simp)), (by rw [show upd L 14 17 = false from h17]; exact St.new), St.has (by omega) hx.2.2.1, St.has (by omega) hx.2.2.2.1, St.has (by omega) hx.2.2.2.2⟩, StM.valsX [0, 1, 2, 3, 4, 5, 6, 7, 9, 10, 11, 12, 13, 15, 16, 17] [8] (by kernel_rfl) ⟨⟨_, rfl⟩, ⟨_, rfl⟩, ⟨_, rfl⟩, ⟨_, rfl⟩, ⟨_, rfl⟩, ⟨_, rfl⟩, ⟨_, rfl⟩, ⟨_, rfl⟩, ⟨_, rfl⟩, ⟨_, rfl⟩, ⟨_, rfl⟩, ⟨_, rfl⟩, ⟨_, rfl⟩, ⟨_, rfl⟩, ⟨_, rfl⟩, ⟨_, rfl⟩, trivial⟩ (fun j hj u hp => by cases List.mem_singleton.1 hj; obtain ⟨g, h1, h2, h3⟩ := hp; exact ⟨g, h1, h2, h3.stT (by decide) (by decide) (by decide) hk St⟩)⟩, rfl⟩
  case o15p2 => exact fun _ _ x hx _ _ _ _ => jb (v := pK p 0) rfl (jl _ rfl _ rfl)
  case o16p2 => exact fun _ _ x hx _ _ _ _ => jb (v := pK p 22) rfl (jc 98 _ 5 rfl _ _ rfl _)
  case o17p2 =>
    intro L ptrs x hx hL hed hno _
    have hk := hx.2.1
    have h11 : L 11 = true := hed 11 (by kernel_rfl)
    have h14 : L 14 = true := hed 14 (by kernel_rfl)
    rw [hL, h14, h11] at hk
    replace hk : x.heap[p]? = some (.cells (c98 id up false mi mn fi fn oth (some ⟨wp, 0, none⟩)) 98 (0, 0)) := hk
    refine zb _ rfl 23 _ _ rfl p 22 rfl (.agg (c23 a)) rfl 98 _ hk (c23 a) rfl (by kernel_rfl) (nlB rfl) (by kernel_rfl) (c98 id up false mi mn fi fn a (some ⟨wp, 0, none⟩)) (by kernel_rfl) ?_
    intro y St
    exact ⟨⟨⟨hx.1.st St (.inr (by simp)), St.new, St.has (by omega) hx.2.2.1, St.has (by omega) hx.2.2.2.1, St.has (by omega) hx.2.2.2.2⟩, StM.valsX [0, 1, 2, 3, 4, 5, 6, 7, 9, 10, 11, 12, 13, 14, 15, 16] [8] (by kernel_rfl) ⟨⟨_, rfl⟩, ⟨_, rfl⟩, ⟨_, rfl⟩, ⟨_, rfl⟩, ⟨_, rfl⟩, ⟨_, rfl⟩, ⟨_, rfl⟩, ⟨_, rfl⟩, ⟨_, rfl⟩, ⟨_, rfl⟩, ⟨_, rfl⟩, ⟨_, rfl⟩, ⟨_, rfl⟩, ⟨_, rfl⟩, ⟨_, rfl⟩, ⟨_, rfl⟩, trivial⟩ (fun j hj u hp => by cases List.mem_singleton.1 hj; obtain ⟨g, h1, h2, h3⟩ := hp; exact ⟨g, h1, h2, h3.stT (by decide) (by decide) (by decide) hk St⟩)⟩, rfl⟩
  intro ptrs w6 HJ hxE
  simp only [List.drop_succ_cons, List.drop_zero]
  clear GG kp kg1 kg2 kg3
  obtain ⟨GG, kp, kg1, kg2, kg3⟩ := HJ
  replace kp : w6.heap[p]? = some (.cells (c98 id up false mi mn fi fn a (some ⟨wp, 0, none⟩)) 98 (0, 0)) := kp
  obtain ⟨⟨wp2, hv, hwp2, HW2⟩, _⟩ := hxE
  simp only [hv]
  clear hv hxE
  refine sv 57 (pK p 0) (jl _ rfl _ rfl) (sv 58 (pK p 38) (jc 98 _ 6 rfl _ _ rfl _) ?_)
  refine nr ?_; intro U h; simp only [z0, z1] at h; subst h
  refine jo rfl rfl 95 _ _ rfl p 38 rfl (pK wp2 0) rfl 98 _ kp #[pK wp2 0] rfl (by kernel_rfl) (nlB rfl) (by kernel_rfl) (c98 id up false mi mn fi fn a (some ⟨wp2, 0, none⟩)) (by kernel_rfl) ?_
  intro w8 St
  replace kg1 := St.has (by omega) kg1
  replace kg2 := St.has (by omega) kg2
  replace kg3 := St.has (by omega) kg3
  replace HW2 := HW2.stT (by decide) (by decide) (by decide) kp St
  replace GG := GG.st St (.inr (by simp))
  replace kp := St.new
  clear St
  refine wpList_nil (ja (wp_seq ?_))
  refine jw (A := ?Ax12) 6 [(0, 59), (1, 60), (2, 61), (3, 62), (4, 63), (5, 64)] [.val (pK g1 2), .val (.agg (c29 ti tn)), .val (pK p 0), .val (pK p 0), .val (pK p 18), .val (.agg (c29 mi mn))] follows (by kernel_rfl) rfl ?hAx12 (jd ?o0x12 (jd ?o1x12 (jd ?o2x12 (jd ?o3x12 (jd ?o4x12 (jd ?o5x12 jM)))))) ?restx12
  case hAx12 =>
    intro ptrs
    simp only [full, foldSlots, filledE, postE, List.foldl_cons, List.foldl_nil, List.getD_cons_zero, List.getD_cons_succ, ju, List.set_cons_zero, List.set_cons_succ]
    exact rfl
  case o0x12 => exact fun _ _ hw _ => jb (v := pK g1 2) rfl (jc 110 _ 1 rfl _ _ rfl _)
  case o1x12 => exact fun _ _ hw _ => jb (v := .agg (c29 ti tn)) rfl (jk 29 _ rfl g1 2 2 rfl 110 _ (hw.has kg1) _ Try.underlying29 rfl si29 _)
  case o2x12 => exact fun _ _ _ _ => jj (v := pK p 0) _ rfl rfl rfl
  case o3x12 => exact fun _ _ hw _ => jb (v := pK p 0) rfl (jl _ rfl _ rfl)
  case o4x12 => exact fun _ _ hw _ => jb (v := pK p 18) rfl (jc 98 _ 3 rfl _ _ rfl _)
  case o5x12 => exact fun _ _ hw _ => jb (v := .agg (c29 mi mn)) rfl (jk 29 _ rfl p 18 2 rfl 98 _ (hw.has kp) _ Try.underlying29 rfl si29 _)
  intro ptrs w9 GD hxE
  simp only [List.drop_succ_cons, List.drop_zero]
  replace kp := GD.has kp
  replace kg1 := GD.has kg1
  replace kg2 := GD.has kg2
  replace kg3 := GD.has kg3
  replace HW2 := HW2.gro ((Gro.refl _).drew.trans GD)
  replace GG := GG.drew.tg GD
  clear GD
  refine sv 65 (vTr) (jW _ _ _ rfl ti tn mi mn rfl rfl true (hs) _) (mv 9 (vTr) (wpList_nil (ja (wp_seq ?_))))
  refine jr ?_
  intro OPS hY
  have y1 := hY 1 67 rfl
  clear hY
  refine mv 66 (vTr) ?_
  refine nr ?_; intro U h; simp only [z0, z1] at h; subst h
  refine mv 67 (vTr) (jn 68 rfl rfl y1 rfl (pK p 0) (rfl) ?_)
  refine yE 69 rfl rfl y1 rfl _ 56 Try.call56 rfl rfl _ rfl [pK p 0] rfl (zC _ p wp2 w.heap.size id up false mi mn fi fn a none 0 [] 0 0 ⟨kp, HW2⟩) (fun _ _ ⟨he, _⟩ => ⟨_, he⟩) ?_
  rintro v w10 ⟨he, G, HE⟩
  cases he
  replace kg1 := G.has kg1 (by simp; omega)
  replace kg2 := G.has kg2 (by simp; omega)
  replace kg3 := G.has kg3 (by simp; omega)
  replace GG := GG.trans G
  clear kp HW2 G
  have kp := HE.box
  have HW2 := HE.win
  clear HE
  refine nr ?_; intro U h; simp only [z0, z1] at h; subst h
  refine mv 70 (vTr) (mv 10 (vTr) (wpList_nil (ja (wp_seq (wp_seq ?_)))))
  refine jr ?_
  intro OPS hY
  have y1 := hY 1 72 rfl
  clear hY
  refine mv 71 (vTr) ?_
  refine nr ?_; intro U h; simp only [z0, z1] at h; subst h
  refine mv 72 (vTr) (jn 73 rfl rfl y1 rfl (vTr) (rfl) (jn 74 rfl rfl y1 rfl (vFa) (jU _ _ rfl true rfl) ?_))
  refine nr ?_; intro U h; simp only [z0, z1] at h; subst h
  refine mv 75 (vFa) (wpList_nil (ja (wp_cond_false rfl (wp_skip (ja (wp_seq (wp_region_lit (mv 80 (vFa) (mv 81 (vTr) ?_)))))))))
  refine nr ?_; intro U h; simp only [z0, z1] at h; subst h
  refine mv 82 (pK p 0) ?_
  refine jt 83 rfl rfl _ 35 Try.call35 rfl rfl _ rfl [pK p 0] rfl (zn _ p wp2 w.heap.size id up true mi mn fi fn a none 0 [] 0 0 ⟨kp, HW2⟩) (fun _ _ ⟨_, _, _, _, _, he, _⟩ => ⟨_, he⟩) ?_
  rintro v w11 ⟨s1g, s2g, s3g, aog, capg, he, HVg, G⟩
  cases he
  replace kp := G.has kp
  replace kg1 := G.has kg1
  replace kg2 := G.has kg2
  replace kg3 := G.has kg3
  replace HW2 := HW2.gro G
  replace GG := GG.tg G
  clear G
  refine zR 84 rfl rfl 50 1 _ rfl [(0, .agg (c46 1 zF 0 false id zF 0 mi mn fi fn s1g s2g zF 0 zF s3g 0 0 ⟨aog, 0, capg⟩))] rfl (c46 1 zF 0 false id zF 0 mi mn fi fn s1g s2g zF 0 zF s3g 0 0 ⟨aog, 0, capg⟩) 46 (by kernel_rfl) ?_
  intro w12 g4 G eg4 kg4
  have bg4 := jz GG eg4
  have dpg4 := jf kp eg4
  have dg1g4 := jf kg1 eg4
  have dg2g4 := jf kg2 eg4
  have dg3g4 := jf kg3 eg4
  replace kp := G.has kp
  replace kg1 := G.has kg1
  replace kg2 := G.has kg2
  replace kg3 := G.has kg3
  replace HW2 := HW2.gro G
  replace HVg := HVg.gro G
  replace GG := GG.tg G
  clear G eg4
  refine nr ?_; intro U h; simp only [z0, z1] at h; subst h
  refine sv 85 (.agg (c59 false true Sl.nil false ⟨some ⟨g4, 0, none⟩, 1, 1⟩)) (jA 59 _ rfl [(0, vFa), (1, vTr), (4, .slice (some ⟨g4, 0, none⟩) 1 1)] rfl _ (by kernel_rfl)) ?_
  refine jo rfl rfl 59 _ _ rfl g3 0 rfl (.agg (c59 false true Sl.nil false ⟨some ⟨g4, 0, none⟩, 1, 1⟩)) rfl 59 _ kg3 (c59 false true Sl.nil false ⟨some ⟨g4, 0, none⟩, 1, 1⟩) rfl (by kernel_rfl) (nlB rfl) (by kernel_rfl) (c59 false true Sl.nil false ⟨some ⟨g4, 0, none⟩, 1, 1⟩) (by kernel_rfl) ?_
  intro w14 St
  replace kp := St.has (by omega) kp
  replace kg1 := St.has (by omega) kg1
  replace kg2 := St.has (by omega) kg2
  replace kg4 := St.has (by omega) kg4
  replace HW2 := HW2.stT (by decide) (by decide) (by decide) kg3 St
  replace HVg := HVg.no5 ((GroS.refl [g3] _).st St (.inr (by simp))) (jv kg3 (by decide))
  replace GG := GG.st St (.inl bg3)
  replace kg3 := St.new
  clear St
  refine wpList_nil (ja (wp_ret ?_))
  refine bodyPost_ret (results_cell_row Try.results44 _ _ g3 59 _ (0, 0) _ rfl kg3 Try.underlying59 rfl (by kernel_rfl)) rfl ?_
  exact ⟨_, (p :: wp2 :: blk none), [], rfl, TV.one (f := pfr ⟨1, id, mi, mn, fi, fn, 0, []⟩ s1g s2g s3g ⟨aog, 0, capg⟩) kg4 HVg, ⟨wp2, _, none, 0, [], ⟨kp, HW2⟩, rfl, rfl, rfl⟩, GG.p1, Fresh.win hwp2, Fresh.nil0 _ _⟩
theorem uJ (w : World) (p wp B : Nat) (id : Nat → Nat) (up : Bool) (mi mn pi pn : Int) (oth : Nat → Nat) (ro : Option Addr) (rc : Nat) (q : List RV) (k c : Nat) (H : EW w p wp B id up true mi mn pi pn oth ro rc q k c) (fi fn ti tn : Int) (a : Nat → Nat) (ni nn : Int) (hl : decide (cmpP fi fn pi pn < 0) = false) (hz : (decide (fi = 0) && decide (fn = 0)) = false) (hg : decide (0 < cmpP fi fn pi pn) = true) (hs : (decide (ti = ni) && decide (tn = nn)) = false) : Calls Try.prog 44 #[pK p 0, .agg (c110 fi fn ti tn a), .agg (c29 ni nn)] w (HearP w p id (p :: wp :: blk ro) (txb q) (⟨up, false, ni, nn, fi, fn, a, 0, [], 0⟩, ⟨true, false, [], false, [⟨1, id, ni, nn, fi, fn, 0, []⟩]⟩)) := by
  refine jq Try.func44 rfl Try.ntmps44 [pK p 0, .agg (c110 fi fn ti tn a), .agg (c29 ni nn)] ?_
  intro U h; simp only [List.length_cons, List.length_nil, List.cons_append, List.nil_append, Nat.reduceAdd, Nat.reduceSub, List.reduceReplicate] at h; subst h
  have GG := GroS.refl [p] w
  have kp := H.box
  have HW := H.win
  have hpl := jm kp
  refine wp_seq (wp_region_lit ?_)
  refine jE 4 rfl rfl 110 _ rfl _ rfl (c110 fi fn ti tn a) rfl ?_
  intro w1 g1 G eg1 kg1
  have bg1 := jz GG eg1
  have dpg1 := jf kp eg1
  replace kp := G.has kp
  replace HW := HW.gro G
  replace GG := GG.tg G
  clear G eg1
  refine jE 5 rfl rfl 29 _ rfl _ rfl (c29 ni nn) rfl ?_
  intro w2 g2 G eg2 kg2
  have bg2 := jz GG eg2
  have dpg2 := jf kp eg2
  have dg1g2 := jf kg1 eg2
  replace kp := G.has kp
  replace kg1 := G.has kg1
  replace HW := HW.gro G
  replace GG := GG.tg G
  clear G eg2
  refine js 6 rfl rfl 59 rfl _ zv59 _ rfl ?_
  intro w3 g3 G eg3 kg3
  have bg3 := jz GG eg3
  have dpg3 := jf kp eg3
  have dg1g3 := jf kg1 eg3
  have dg2g3 := jf kg2 eg3
  replace kp := G.has kp
  replace kg1 := G.has kg1
  replace kg2 := G.has kg2
  replace HW := HW.gro G
  replace GG := GG.tg G
  clear G eg3
  refine nr ?_; intro U h; simp only [z0, z1] at h; subst h
  refine wpList_nil (ja (wp_seq ?_))
  refine jw (A := ?Ax13) 6 [(0, 11), (1, 12), (2, 13), (3, 14), (4, 15), (5, 16)] [.val (pK g1 0), .val (.agg (c29 fi fn)), .val (pK p 0), .val (pK p 0), .val (pK p 20), .val (.agg (c29 pi pn))] follows (by kernel_rfl) rfl ?hAx13 (jd ?o0x13 (jd ?o1x13 (jd ?o2x13 (jd ?o3x13 (jd ?o4x13 (jd ?o5x13 jM)))))) ?restx13
  case hAx13 =>
    intro ptrs
    simp only [full, foldSlots, filledE, postE, List.foldl_cons, List.foldl_nil, List.getD_cons_zero, List.getD_cons_succ, ju, List.set_cons_zero, List.set_cons_succ]
    exact rfl
  case o0x13 => exact fun _ _ hw _ => jb (v := pK g1 0) rfl (jc 110 _ 0 rfl _ _ rfl _)
  case o1x13 => exact fun _ _ hw _ => jb (v := .agg (c29 fi fn)) rfl (jk 29 _ rfl g1 0 2 rfl 110 _ (hw.has kg1) _ Try.underlying29 rfl si29 _)
  case o2x13 => exact fun _ _ _ _ => jj (v := pK p 0) _ rfl rfl rfl
  case o3x13 => exact fun _ _ hw _ => jb (v := pK p 0) rfl (jl _ rfl _ rfl)
  case o4x13 => exact fun _ _ hw _ => jb (v := pK p 20) rfl (jc 98 _ 4 rfl _ _ rfl _)
  case o5x13 => exact fun _ _ hw _ => jb (v := .agg (c29 pi pn)) rfl (jk 29 _ rfl p 20 2 rfl 98 _ (hw.has kp) _ Try.underlying29 rfl si29 _)
  intro ptrs w4 GD hxE
  simp only [List.drop_succ_cons, List.drop_zero]
  replace kp := GD.has kp
  replace kg1 := GD.has kg1
  replace kg2 := GD.has kg2
  replace kg3 := GD.has kg3
  replace HW := HW.gro ((Gro.refl _).drew.trans GD)
  replace GG := GG.drew.tg GD
  clear GD
  refine jC 17 rfl rfl _ 55 Try.call55 rfl rfl _ rfl [.agg (c29 fi fn), .agg (c29 pi pn)] rfl (zo _ fi fn pi pn) ?_
  intro w5 G
  replace kp := G.has kp
  replace kg1 := G.has kg1
  replace kg2 := G.has kg2
  replace kg3 := G.has kg3
  replace HW := HW.gro G
  replace GG := GG.tg G
  clear G
  refine mv 7 (iK (cmpP fi fn pi pn)) (wpList_nil (ja (wp_seq (wp_seq ?_))))
  refine jr ?_
  intro OPS hY
  have y2 := hY 2 20 rfl
  clear hY
  refine mv 18 (iK (cmpP fi fn pi pn)) ?_
  refine nr ?_; intro U h; simp only [z0, z1] at h; subst h
  refine sv 19 (vFa) (jP 3 _ _ _ rfl (cmpP fi fn pi pn) 0 rfl rfl false hl _) (mv 20 (vFa) (jn 21 rfl rfl y2 rfl (pK g1 0) (jc 110 _ 0 rfl _ _ rfl _) ?_))
  refine nr ?_; intro U h; simp only [z0, z1] at h; subst h
  refine jn 22 rfl rfl y2 rfl (.agg (c29 fi fn)) (jk 29 _ rfl g1 0 2 rfl 110 _ kg1 _ Try.underlying29 rfl si29 _) (jn 23 rfl rfl y2 rfl (.agg (c29 0 0)) (jA 29 _ rfl [] rfl _ (by kernel_rfl)) (jn 24 rfl rfl y2 rfl (vFa) (jW _ _ _ rfl fi fn 0 0 rfl rfl false (hz) _) ?_))
  refine nr ?_; intro U h; simp only [z0, z1] at h; subst h
  refine mv 25 (vFa) (wpList_nil (ja (wp_cond_false rfl (wp_skip (ja (wp_seq ?_))))))
  refine jr ?_
  intro OPS hY
  have y2 := hY 2 29 rfl
  clear hY
  refine mv 27 (iK (cmpP fi fn pi pn)) (sv 28 (vTr) (jD 3 _ _ _ rfl (cmpP fi fn pi pn) 0 rfl rfl true hg _) ?_)
  refine nr ?_; intro U h; simp only [z0, z1] at h; subst h
  refine mv 29 (vTr) (jn 30 rfl rfl y2 rfl (pK p 0) (rfl) (jn 31 rfl rfl y2 rfl (pK p 0) (jl _ rfl _ rfl) ?_))
  refine nr ?_; intro U h; simp only [z0, z1] at h; subst h
  refine jn 32 rfl rfl y2 rfl (pK p 17) (jc 98 _ 2 rfl _ _ rfl _) (jn 33 rfl rfl y2 rfl (vTr) (je 4 _ rfl p 17 rfl 98 _ kp (na4 _) _ rfl) (mv 34 (vTr) ?_))
  refine nr ?_; intro U h; simp only [z0, z1] at h; subst h
  refine mv 8 (vTr) (wpList_nil (ja (wp_seq (wp_seq (wp_region_lit (mv 35 (vTr) (wpList_nil (ja (wp_cond_true rfl (wp_region_lit (mv 36 (pK p 0) ?_)))))))))))
  refine nr ?_; intro U h; simp only [z0, z1] at h; subst h
  refine sv 37 (.agg (c29 ni nn)) (jk 29 _ rfl g2 0 2 rfl 29 _ kg2 _ Try.underlying29 rfl si29 _) (sv 38 (pK p 0) (jl _ rfl _ rfl) (sv 39 (pK p 18) (jc 98 _ 3 rfl _ _ rfl _) ?_))
  refine nr ?_; intro U h; simp only [z0, z1] at h; subst h
  refine jo rfl rfl 29 _ _ rfl p 18 rfl (.agg (c29 ni nn)) rfl 98 _ kp (c29 ni nn) rfl (by kernel_rfl) (nlB rfl) (by kernel_rfl) (c98 id up true ni nn pi pn oth (some ⟨wp, 0, none⟩)) (by kernel_rfl) ?_
  intro w7 St
  replace kg1 := St.has (by omega) kg1
  replace kg2 := St.has (by omega) kg2
  replace kg3 := St.has (by omega) kg3
  replace HW := HW.stT (by decide) (by decide) (by decide) kp St
  replace GG := GG.st St (.inr (by simp))
  replace kp := St.new
  clear St
  refine wpList_nil (ja (wp_seq (wp_seq (wp_region_lit (mv 40 (iK (cmpP fi fn pi pn)) (sv 41 (vTr) (jD 3 _ _ _ rfl (cmpP fi fn pi pn) 0 rfl rfl true hg _) (wpList_nil (ja (wp_cond_true rfl ?_)))))))))
  clear HW
  refine jJ (A := ?Ap3) (fun L x => GroS [p] w x ∧ x.heap[p]? = some (.cells (cond (L 17) (c98 id up false ni nn fi fn a (some ⟨wp, 0, none⟩)) (cond (L 14) (c98 id up false ni nn fi fn oth (some ⟨wp, 0, none⟩)) (cond (L 11) (c98 id up false ni nn pi pn oth (some ⟨wp, 0, none⟩)) (c98 id up true ni nn pi pn oth (some ⟨wp, 0, none⟩))))) 98 (0, 0)) ∧ x.heap[g1]? = some (.cells (c110 fi fn ti tn a) 110 (0, 0)) ∧ x.heap[g2]? = some (.cells (c29 ni nn) 29 (0, 0)) ∧ x.heap[g3]? = some (.cells (c59 false false Sl.nil false Sl.nil) 59 (0, 0))) 18 [(0, 42), (1, 43), (2, 44), (3, 45), (4, 46), (5, 47), (6, 48), (7, 49), (8, 50), (9, 51), (10, 52), (12, 53), (13, 54), (15, 55), (16, 56)] [.val (pK p 0), .val (pK p 0), .val (pK p 0), .val (pK p 0), .val (pK g1 0), .val (.agg (c29 fi fn)), .val (pK g1 4), .val (.agg (c23 a)), nwE w.heap.size, .val (pK p 0), .val (pK p 17), .val undef, .val (pK p 0), .val (pK p 20), .val undef, .val (pK p 0), .val (pK p 22), .val undef] [] [8] follows (by kernel_rfl) rfl (by kernel_rfl) (by decide) ⟨GG.drew, (Gro.refl _).drew.has kp, (Gro.refl _).drew.has kg1, (Gro.refl _).drew.has kg2, (Gro.refl _).drew.has kg3⟩ ?hAp3 (ji (fun _ _ _ h _ G => ⟨h.1.tg G, G.has h.2.1, G.has h.2.2.1, G.has h.2.2.2.1, G.has h.2.2.2.2⟩) ?o0p3 (ji (fun _ _ _ h _ G => ⟨h.1.tg G, G.has h.2.1, G.has h.2.2.1, G.has h.2.2.2.1, G.has h.2.2.2.2⟩) ?o1p3 (ji (fun _ _ _ h _ G => ⟨h.1.tg G, G.has h.2.1, G.has h.2.2.1, G.has h.2.2.2.1, G.has h.2.2.2.2⟩) ?o2p3 (ji (fun _ _ _ h _ G => ⟨h.1.tg G, G.has h.2.1, G.has h.2.2.1, G.has h.2.2.2.1, G.has h.2.2.2.2⟩) ?o3p3 (ji (fun _ _ _ h _ G => ⟨h.1.tg G, G.has h.2.1, G.has h.2.2.1, G.has h.2.2.2.1, G.has h.2.2.2.2⟩) ?o4p3 (ji (fun _ _ _ h _ G => ⟨h.1.tg G, G.has h.2.1, G.has h.2.2.1, G.has h.2.2.2.1, G.has h.2.2.2.2⟩) ?o5p3 (ji (fun _ _ _ h _ G => ⟨h.1.tg G, G.has h.2.1, G.has h.2.2.1, G.has h.2.2.2.1, G.has h.2.2.2.2⟩) ?o6p3 (ji (fun _ _ _ h _ G => ⟨h.1.tg G, G.has h.2.1, G.has h.2.2.1, G.has h.2.2.2.1, G.has h.2.2.2.2⟩) ?o7p3 (ji (fun _ _ _ h _ G => ⟨h.1.tg G, G.has h.2.1, G.has h.2.2.1, G.has h.2.2.2.1, G.has h.2.2.2.2⟩) ?o8p3 (ji (fun _ _ _ h _ G => ⟨h.1.tg G, G.has h.2.1, G.has h.2.2.1, G.has h.2.2.2.1, G.has h.2.2.2.2⟩) ?o9p3 (ji (fun _ _ _ h _ G => ⟨h.1.tg G, G.has h.2.1, G.has h.2.2.1, G.has h.2.2.2.1, G.has h.2.2.2.2⟩) ?o10p3 (jX ?o11p3 (ji (fun _ _ _ h _ G => ⟨h.1.tg G, G.has h.2.1, G.has h.2.2.1, G.has h.2.2.2.1, G.has h.2.2.2.2⟩) ?o12p3 (ji (fun _ _ _ h _ G => ⟨h.1.tg G, G.has h.2.1, G.has h.2.2.1, G.has h.2.2.2.1, G.has h.2.2.2.2⟩) ?o13p3 (jX ?o14p3 (ji (fun _ _ _ h _ G => ⟨h.1.tg G, G.has h.2.1, G.has h.2.2.1, G.has h.2.2.2.1, G.has h.2.2.2.2⟩) ?o15p3 (ji (fun _ _ _ h _ G => ⟨h.1.tg G, G.has h.2.1, G.has h.2.2.1, G.has h.2.2.2.1, G.has h.2.2.2.2⟩) ?o16p3 (jX ?o17p3 zc)))))))))))))))))) ?restp3
  case hAp3 =>
    intro ptrs
    simp only [full, foldSlots, filledE, postE, List.foldl_cons, List.foldl_nil, List.getD_cons_zero, List.getD_cons_succ, ju, yW,  List.set_cons_zero, List.set_cons_succ]
    exact rfl
  case o0p3 => exact fun _ _ _ _ _ _ _ _ => jj (v := pK p 0) _ rfl rfl rfl
  case o1p3 => exact fun _ _ _ _ _ _ _ _ => jj (v := pK p 0) _ rfl rfl rfl
  case o2p3 => exact fun _ _ _ _ _ _ _ _ => jj (v := pK p 0) _ rfl rfl rfl
  case o3p3 => exact fun _ _ _ _ _ _ _ _ => jj (v := pK p 0) _ rfl rfl rfl
  case o4p3 => exact fun _ _ x hx _ _ _ _ => jb (v := pK g1 0) rfl (jc 110 _ 0 rfl _ _ rfl _)
  case o5p3 => exact fun _ _ x hx _ _ _ _ => jb (v := .agg (c29 fi fn)) rfl (jk 29 _ rfl g1 0 2 rfl 110 _ hx.2.2.1 _ Try.underlying29 rfl si29 _)
  case o6p3 => exact fun _ _ x hx _ _ _ _ => jb (v := pK g1 4) rfl (jc 110 _ 2 rfl _ _ rfl _)
  case o7p3 => exact fun _ _ x hx _ _ _ _ => jb (v := .agg (c23 a)) rfl (jk 23 _ rfl g1 4 16 rfl 110 _ hx.2.2.1 _ Try.underlying23 rfl si23 _)
  case o8p3 =>
    intro _ _ x hx _ _ _ _
    exact zK (nwE w.heap.size) rfl _ 34 Try.call34 rfl rfl _ rfl [] rfl ((yT _).mono fun e w' ⟨g, he, hg, hz, hk⟩ => ⟨_, he, hg, g, rfl, Nat.le_trans hx.1.size hz, hk.base0 hx.1.size⟩)
  case o9p3 => exact fun _ _ x hx _ _ _ _ => jb (v := pK p 0) rfl (jl _ rfl _ rfl)
  case o10p3 => exact fun _ _ x hx _ _ _ _ => jb (v := pK p 17) rfl (jc 98 _ 2 rfl _ _ rfl _)
  case o11p3 =>
    intro L ptrs x hx hL hed hno _
    have hk := hx.2.1
    have h14 : L 14 = false := hno 14 (by kernel_rfl)
    have h17 : L 17 = false := hno 17 (by kernel_rfl)
    rw [h17, h14, hL] at hk
    replace hk : x.heap[p]? = some (.cells (c98 id up true ni nn pi pn oth (some ⟨wp, 0, none⟩)) 98 (0, 0)) := hk
    refine zb _ rfl 4 _ _ rfl p 17 rfl (vFa) rfl 98 _ hk #[vFa] rfl (by kernel_rfl) (nlB rfl) (by kernel_rfl) (c98 id up false ni nn pi pn oth (some ⟨wp, 0, none⟩)) (by kernel_rfl) ?_
    intro y St
    exact ⟨⟨⟨hx.1.st St (.inr (by simp)), (by rw [show upd L 11 17 = false from h17, show upd L 11 14 = false from h14]; exact St.new), St.has (by omega) hx.2.2.1, St.has (by omega) hx.2.2.2.1, St.has (by omega) hx.2.2.2.2⟩, StM.valsX [0, 1, 2, 3, 4, 5, 6, 7, 9, 10, 12, 13, 14, 15, 16, 17] [8] (by kernel_rfl) ⟨⟨_, rfl⟩, ⟨_, rfl⟩, ⟨_, rfl⟩, ⟨_, rfl⟩, ⟨_, rfl⟩, ⟨_, rfl⟩, ⟨_, rfl⟩, ⟨_, rfl⟩, ⟨_, rfl⟩, ⟨_, rfl⟩, ⟨_, rfl⟩, ⟨_, rfl⟩, ⟨_, rfl⟩, ⟨_, rfl⟩, ⟨_, rfl⟩, ⟨_, rfl⟩, trivial⟩ (fun j hj u hp => by cases List.mem_singleton.1 hj; obtain ⟨g, h1, h2, h3⟩ := hp; exact ⟨g, h1, h2, h3.stT (by decide) (by decide) (by decide) hk St⟩)⟩, rfl⟩
  case o12p3 => exact fun _ _ x hx _ _ _ _ => jb (v := pK p 0) rfl (jl _ rfl _ rfl)
  case o13p3 => exact fun _ _ x hx _ _ _ _ => jb (v := pK p 20) rfl (jc 98 _ 4 rfl _ _ rfl _)
  case o14p3 =>
    intro L ptrs x hx hL hed hno _
    have hk := hx.2.1
    have h11 : L 11 = true := hed 11 (by kernel_rfl)
    have h17 : L 17 = false := hno 17 (by kernel_rfl)
    rw [h17, hL, h11] at hk
    replace hk : x.heap[p]? = some (.cells (c98 id up false ni nn pi pn oth (some ⟨wp, 0, none⟩)) 98 (0, 0)) := hk
    refine zb _ rfl 29 _ _ rfl p 20 rfl (.agg (c29 fi fn)) rfl 98 _ hk (c29 fi fn) rfl (by kernel_rfl) (nlB rfl) (by kernel_rfl) (c98 id up false ni nn fi fn oth (some ⟨wp, 0, none⟩)) (by kernel_rfl) ?_
    intro y St
    exact ⟨⟨⟨hx.1.st St (.inr (by simp)), (by rw [show upd L 14 17 = false from h17]; exact St.new), St.has (by omega) hx.2.2.1, St.has (by omega) hx.2.2.2.1, St.has (by omega) hx.2.2.2.2⟩, StM.valsX [0, 1, 2, 3, 4, 5, 6, 7, 9, 10, 11, 12, 13, 15, 16, 17] [8] (by kernel_rfl) ⟨⟨_, rfl⟩, ⟨_, rfl⟩, ⟨_, rfl⟩, ⟨_, rfl⟩, ⟨_, rfl⟩, ⟨_, rfl⟩, ⟨_, rfl⟩, ⟨_, rfl⟩, ⟨_, rfl⟩, ⟨_, rfl⟩, ⟨_, rfl⟩, ⟨_, rfl⟩, ⟨_, rfl⟩, ⟨_, rfl⟩, ⟨_, rfl⟩, ⟨_, rfl⟩, trivial⟩ (fun j hj u hp => by cases List.mem_singleton.1 hj; obtain ⟨g, h1, h2, h3⟩ := hp; exact ⟨g, h1, h2, h3.stT (by decide) (by decide) (by decide) hk St⟩)⟩, rfl⟩
  case o15p3 => exact fun _ _ x hx _ _ _ _ => jb (v := pK p 0) rfl (jl _ rfl _ rfl)
  case o16p3 => exact fun _ _ x hx _ _ _ _ => jb (v := pK p 22) rfl (jc 98 _ 5 rfl _ _ rfl _)
  case o17p3 =>
    intro L ptrs x hx hL hed hno _
    have hk := hx.2.1
    have h11 : L 11 = true := hed 11 (by kernel_rfl)
    have h14 : L 14 = true := hed 14 (by kernel_rfl)
    rw [hL, h14, h11] at hk
    replace hk : x.heap[p]? = some (.cells (c98 id up false ni nn fi fn oth (some ⟨wp, 0, none⟩)) 98 (0, 0)) := hk
    refine zb _ rfl 23 _ _ rfl p 22 rfl (.agg (c23 a)) rfl 98 _ hk (c23 a) rfl (by kernel_rfl) (nlB rfl) (by kernel_rfl) (c98 id up false ni nn fi fn a (some ⟨wp, 0, none⟩)) (by kernel_rfl) ?_
    intro y St
    exact ⟨⟨⟨hx.1.st St (.inr (by simp)), St.new, St.has (by omega) hx.2.2.1, St.has (by omega) hx.2.2.2.1, St.has (by omega) hx.2.2.2.2⟩, StM.valsX [0, 1, 2, 3, 4, 5, 6, 7, 9, 10, 11, 12, 13, 14, 15, 16] [8] (by kernel_rfl) ⟨⟨_, rfl⟩, ⟨_, rfl⟩, ⟨_, rfl⟩, ⟨_, rfl⟩, ⟨_, rfl⟩, ⟨_, rfl⟩, ⟨_, rfl⟩, ⟨_, rfl⟩, ⟨_, rfl⟩, ⟨_, rfl⟩, ⟨_, rfl⟩, ⟨_, rfl⟩, ⟨_, rfl⟩, ⟨_, rfl⟩, ⟨_, rfl⟩, ⟨_, rfl⟩, trivial⟩ (fun j hj u hp => by cases List.mem_singleton.1 hj; obtain ⟨g, h1, h2, h3⟩ := hp; exact ⟨g, h1, h2, h3.stT (by decide) (by decide) (by decide) hk St⟩)⟩, rfl⟩
  intro ptrs w8 HJ hxE
  simp only [List.drop_succ_cons, List.drop_zero]
  clear GG kp kg1 kg2 kg3
  obtain ⟨GG, kp, kg1, kg2, kg3⟩ := HJ
  replace kp : w8.heap[p]? = some (.cells (c98 id up false ni nn fi fn a (some ⟨wp, 0, none⟩)) 98 (0, 0)) := kp
  obtain ⟨⟨wp2, hv, hwp2, HW2⟩, _⟩ := hxE
  simp only [hv]
  clear hv hxE
  refine sv 57 (pK p 0) (jl _ rfl _ rfl) ?_
  refine nr ?_; intro U h; simp only [z0, z1] at h; subst h
  refine sv 58 (pK p 38) (jc 98 _ 6 rfl _ _ rfl _) ?_
  refine jo rfl rfl 95 _ _ rfl p 38 rfl (pK wp2 0) rfl 98 _ kp #[pK wp2 0] rfl (by kernel_rfl) (nlB rfl) (by kernel_rfl) (c98 id up false ni nn fi fn a (some ⟨wp2, 0, none⟩)) (by kernel_rfl) ?_
  intro w10 St
  replace kg1 := St.has (by omega) kg1
  replace kg2 := St.has (by omega) kg2
  replace kg3 := St.has (by omega) kg3
  replace HW2 := HW2.stT (by decide) (by decide) (by decide) kp St
  replace GG := GG.st St (.inr (by simp))
  replace kp := St.new
  clear St
  refine wpList_nil (ja (wp_seq ?_))
  refine jw (A := ?Ax14) 6 [(0, 59), (1, 60), (2, 61), (3, 62), (4, 63), (5, 64)] [.val (pK g1 2), .val (.agg (c29 ti tn)), .val (pK p 0), .val (pK p 0), .val (pK p 18), .val (.agg (c29 ni nn))] follows (by kernel_rfl) rfl ?hAx14 (jd ?o0x14 (jd ?o1x14 (jd ?o2x14 (jd ?o3x14 (jd ?o4x14 (jd ?o5x14 jM)))))) ?restx14
  case hAx14 =>
    intro ptrs
    simp only [full, foldSlots, filledE, postE, List.foldl_cons, List.foldl_nil, List.getD_cons_zero, List.getD_cons_succ, ju, List.set_cons_zero, List.set_cons_succ]
    exact rfl
  case o0x14 => exact fun _ _ hw _ => jb (v := pK g1 2) rfl (jc 110 _ 1 rfl _ _ rfl _)
  case o1x14 => exact fun _ _ hw _ => jb (v := .agg (c29 ti tn)) rfl (jk 29 _ rfl g1 2 2 rfl 110 _ (hw.has kg1) _ Try.underlying29 rfl si29 _)
  case o2x14 => exact fun _ _ _ _ => jj (v := pK p 0) _ rfl rfl rfl
  case o3x14 => exact fun _ _ hw _ => jb (v := pK p 0) rfl (jl _ rfl _ rfl)
  case o4x14 => exact fun _ _ hw _ => jb (v := pK p 18) rfl (jc 98 _ 3 rfl _ _ rfl _)
  case o5x14 => exact fun _ _ hw _ => jb (v := .agg (c29 ni nn)) rfl (jk 29 _ rfl p 18 2 rfl 98 _ (hw.has kp) _ Try.underlying29 rfl si29 _)
  intro ptrs w11 GD hxE
  simp only [List.drop_succ_cons, List.drop_zero]
  replace kp := GD.has kp
  replace kg1 := GD.has kg1
  replace kg2 := GD.has kg2
  replace kg3 := GD.has kg3
  replace HW2 := HW2.gro ((Gro.refl _).drew.trans GD)
  replace GG := GG.drew.tg GD
  clear GD
  refine sv 65 (vFa) (jW _ _ _ rfl ti tn ni nn rfl rfl false (hs) _) (mv 9 (vFa) ?_)
  refine nr ?_; intro U h; simp only [z0, z1] at h; subst h
  refine wpList_nil (ja (wp_seq ?_))
  refine jr ?_
  intro OPS hY
  have y1 := hY 1 67 rfl
  clear hY
  refine mv 66 (vFa) (mv 67 (vFa) (jO 68 rfl rfl y1 rfl ?_))
  refine nr ?_; intro U h; simp only [z0, z1] at h; subst h
  refine jO 69 rfl rfl y1 rfl (mv 70 (vFa) (mv 10 (vFa) ?_))
  refine nr ?_; intro U h; simp only [z0, z1] at h; subst h
  refine wpList_nil (ja (wp_seq (wp_seq ?_)))
  refine jr ?_
  intro OPS hY
  have y1 := hY 1 72 rfl
  clear hY
  refine mv 71 (vFa) (mv 72 (vFa) (jO 73 rfl rfl y1 rfl ?_))
  refine nr ?_; intro U h; simp only [z0, z1] at h; subst h
  refine jO 74 rfl rfl y1 rfl (mv 75 (vFa) (wpList_nil (ja (wp_cond_false rfl (wp_skip (ja (wp_seq (wp_region_lit (mv 80 (vTr) ?_)))))))))
  refine nr ?_; intro U h; simp only [z0, z1] at h; subst h
  refine mv 81 (vFa) (mv 82 (pK p 0) ?_)
  refine jt 83 rfl rfl _ 35 Try.call35 rfl rfl _ rfl [pK p 0] rfl (zn _ p wp2 w.heap.size id up false ni nn fi fn a none 0 [] 0 0 ⟨kp, HW2⟩) (fun _ _ ⟨_, _, _, _, _, he, _⟩ => ⟨_, he⟩) ?_
  rintro v w12 ⟨s1g, s2g, s3g, aog, capg, he, HVg, G⟩
  cases he
  replace kp := G.has kp
  replace kg1 := G.has kg1
  replace kg2 := G.has kg2
  replace kg3 := G.has kg3
  replace HW2 := HW2.gro G
  replace GG := GG.tg G
  clear G
  refine nr ?_; intro U h; simp only [z0, z1] at h; subst h
  refine zR 84 rfl rfl 50 1 _ rfl [(0, .agg (c46 1 zF 0 false id zF 0 ni nn fi fn s1g s2g zF 0 zF s3g 0 0 ⟨aog, 0, capg⟩))] rfl (c46 1 zF 0 false id zF 0 ni nn fi fn s1g s2g zF 0 zF s3g 0 0 ⟨aog, 0, capg⟩) 46 (by kernel_rfl) ?_
  intro w13 g4 G eg4 kg4
  have bg4 := jz GG eg4
  have dpg4 := jf kp eg4
  have dg1g4 := jf kg1 eg4
  have dg2g4 := jf kg2 eg4
  have dg3g4 := jf kg3 eg4
  replace kp := G.has kp
  replace kg1 := G.has kg1
  replace kg2 := G.has kg2
  replace kg3 := G.has kg3
  replace HW2 := HW2.gro G
  replace HVg := HVg.gro G
  replace GG := GG.tg G
  clear G eg4
  refine sv 85 (.agg (c59 true false Sl.nil false ⟨some ⟨g4, 0, none⟩, 1, 1⟩)) (jA 59 _ rfl [(0, vTr), (1, vFa), (4, .slice (some ⟨g4, 0, none⟩) 1 1)] rfl _ (by kernel_rfl)) ?_
  refine jo rfl rfl 59 _ _ rfl g3 0 rfl (.agg (c59 true false Sl.nil false ⟨some ⟨g4, 0, none⟩, 1, 1⟩)) rfl 59 _ kg3 (c59 true false Sl.nil false ⟨some ⟨g4, 0, none⟩, 1, 1⟩) rfl (by kernel_rfl) (nlB rfl) (by kernel_rfl) (c59 true false Sl.nil false ⟨some ⟨g4, 0, none⟩, 1, 1⟩) (by kernel_rfl) ?_
  intro w15 St
  replace kp := St.has (by omega) kp
  replace kg1 := St.has (by omega) kg1
  replace kg2 := St.has (by omega) kg2
  replace kg4 := St.has (by omega) kg4
  replace HW2 := HW2.stT (by decide) (by decide) (by decide) kg3 St
  replace HVg := HVg.no5 ((GroS.refl [g3] _).st St (.inr (by simp))) (jv kg3 (by decide))
  replace GG := GG.st St (.inl bg3)
  replace kg3 := St.new
  clear St
  refine wpList_nil (ja (wp_ret ?_))
  refine bodyPost_ret (results_cell_row Try.results44 _ _ g3 59 _ (0, 0) _ rfl kg3 Try.underlying59 rfl (by kernel_rfl)) rfl ?_
  exact ⟨_, (p :: wp2 :: blk none), [], rfl, TV.one (f := pfr ⟨1, id, ni, nn, fi, fn, 0, []⟩ s1g s2g s3g ⟨aog, 0, capg⟩) kg4 HVg, ⟨wp2, _, none, 0, [], ⟨kp, HW2⟩, rfl, rfl, rfl⟩, GG.p1, Fresh.win hwp2, Fresh.nil0 _ _⟩
theorem yK (w : World) (p wp B : Nat) (id : Nat → Nat) (up : Bool) (mi mn pi pn : Int) (oth : Nat → Nat) (ro : Option Addr) (rc : Nat) (q : List RV) (k c : Nat) (H : EW w p wp B id up true mi mn pi pn oth ro rc q k c) (fi fn ti tn : Int) (a : Nat → Nat) (ni nn : Int) (hl : decide (cmpP fi fn pi pn < 0) = false) (hz : (decide (fi = 0) && decide (fn = 0)) = false) (hg : decide (0 < cmpP fi fn pi pn) = true) (hs : (decide (ti = ni) && decide (tn = nn)) = true) : Calls Try.prog 44 #[pK p 0, .agg (c110 fi fn ti tn a), .agg (c29 ni nn)] w (HearP w p id (p :: wp :: blk ro) (txb q) (⟨up, true, ni, nn, fi, fn, a, 0, [], 0⟩, ⟨true, true, [], false, [⟨1, id, ni, nn, fi, fn, 0, []⟩]⟩)) := by
  refine jq Try.func44 rfl Try.ntmps44 [pK p 0, .agg (c110 fi fn ti tn a), .agg (c29 ni nn)] ?_
  intro U h; simp only [List.length_cons, List.length_nil, List.cons_append, List.nil_append, Nat.reduceAdd, Nat.reduceSub, List.reduceReplicate] at h; subst h
  have GG := GroS.refl [p] w
  have kp := H.box
  have HW := H.win
  have hpl := jm kp
  refine wp_seq (wp_region_lit ?_)
  refine jE 4 rfl rfl 110 _ rfl _ rfl (c110 fi fn ti tn a) rfl ?_
  intro w1 g1 G eg1 kg1
  have bg1 := jz GG eg1
  have dpg1 := jf kp eg1
  replace kp := G.has kp
  replace HW := HW.gro G
  replace GG := GG.tg G
  clear G eg1
  refine jE 5 rfl rfl 29 _ rfl _ rfl (c29 ni nn) rfl ?_
  intro w2 g2 G eg2 kg2
  have bg2 := jz GG eg2
  have dpg2 := jf kp eg2
  have dg1g2 := jf kg1 eg2
  replace kp := G.has kp
  replace kg1 := G.has kg1
  replace HW := HW.gro G
  replace GG := GG.tg G
  clear G eg2
  refine js 6 rfl rfl 59 rfl _ zv59 _ rfl ?_
  intro w3 g3 G eg3 kg3
  have bg3 := jz GG eg3
  have dpg3 := jf kp eg3
  have dg1g3 := jf kg1 eg3
  have dg2g3 := jf kg2 eg3
  replace kp := G.has kp
  replace kg1 := G.has kg1
  replace kg2 := G.has kg2
  replace HW := HW.gro G
  replace GG := GG.tg G
  clear G eg3
  refine nr ?_; intro U h; simp only [z0, z1] at h; subst h
  refine wpList_nil (ja (wp_seq ?_))
  refine jw (A := ?Ax15) 6 [(0, 11), (1, 12), (2, 13), (3, 14), (4, 15), (5, 16)] [.val (pK g1 0), .val (.agg (c29 fi fn)), .val (pK p 0), .val (pK p 0), .val (pK p 20), .val (.agg (c29 pi pn))] follows (by kernel_rfl) rfl ?hAx15 (jd ?o0x15 (jd ?o1x15 (jd ?o2x15 (jd ?o3x15 (jd ?o4x15 (jd ?o5x15 jM)))))) ?restx15
  case hAx15 =>
    intro ptrs
    simp only [full, foldSlots, filledE, postE, List.foldl_cons, List.foldl_nil, List.getD_cons_zero, List.getD_cons_succ, ju, List.set_cons_zero, List.set_cons_succ]
    exact rfl
  case o0x15 => exact fun _ _ hw _ => jb (v := pK g1 0) rfl (jc 110 _ 0 rfl _ _ rfl _)
  case o1x15 => exact fun _ _ hw _ => jb (v := .agg (c29 fi fn)) rfl (jk 29 _ rfl g1 0 2 rfl 110 _ (hw.has kg1) _ Try.underlying29 rfl si29 _)
  case o2x15 => exact fun _ _ _ _ => jj (v := pK p 0) _ rfl rfl rfl
  case o3x15 => exact fun _ _ hw _ => jb (v := pK p 0) rfl (jl _ rfl _ rfl)
  case o4x15 => exact fun _ _ hw _ => jb (v := pK p 20) rfl (jc 98 _ 4 rfl _ _ rfl _)
  case o5x15 => exact fun _ _ hw _ => jb (v := .agg (c29 pi pn)) rfl (jk 29 _ rfl p 20 2 rfl 98 _ (hw.has kp) _ Try.underlying29 rfl si29 _)
  intro ptrs w4 GD hxE
  simp only [List.drop_succ_cons, List.drop_zero]
  replace kp := GD.has kp
  replace kg1 := GD.has kg1
  replace kg2 := GD.has kg2
  replace kg3 := GD.has kg3
  replace HW := HW.gro ((Gro.refl _).drew.trans GD)
  replace GG := GG.drew.tg GD
  clear GD
  refine jC 17 rfl rfl _ 55 Try.call55 rfl rfl _ rfl [.agg (c29 fi fn), .agg (c29 pi pn)] rfl (zo _ fi fn pi pn) ?_
  intro w5 G
  replace kp := G.has kp
  replace kg1 := G.has kg1
  replace kg2 := G.has kg2
  replace kg3 := G.has kg3
  replace HW := HW.gro G
  replace GG := GG.tg G
  clear G
  refine mv 7 (iK (cmpP fi fn pi pn)) (wpList_nil (ja (wp_seq (wp_seq ?_))))
  refine jr ?_
  intro OPS hY
  have y2 := hY 2 20 rfl
  clear hY
  refine mv 18 (iK (cmpP fi fn pi pn)) ?_
  refine nr ?_; intro U h; simp only [z0, z1] at h; subst h
  refine sv 19 (vFa) (jP 3 _ _ _ rfl (cmpP fi fn pi pn) 0 rfl rfl false hl _) (mv 20 (vFa) (jn 21 rfl rfl y2 rfl (pK g1 0) (jc 110 _ 0 rfl _ _ rfl _) ?_))
  refine nr ?_; intro U h; simp only [z0, z1] at h; subst h
  refine jn 22 rfl rfl y2 rfl (.agg (c29 fi fn)) (jk 29 _ rfl g1 0 2 rfl 110 _ kg1 _ Try.underlying29 rfl si29 _) (jn 23 rfl rfl y2 rfl (.agg (c29 0 0)) (jA 29 _ rfl [] rfl _ (by kernel_rfl)) (jn 24 rfl rfl y2 rfl (vFa) (jW _ _ _ rfl fi fn 0 0 rfl rfl false (hz) _) ?_))
  refine nr ?_; intro U h; simp only [z0, z1] at h; subst h
  refine mv 25 (vFa) (wpList_nil (ja (wp_cond_false rfl (wp_skip (ja (wp_seq ?_))))))
  refine jr ?_
  intro OPS hY
  have y2 := hY 2 29 rfl
  clear hY
  refine mv 27 (iK (cmpP fi fn pi pn)) (sv 28 (vTr) (jD 3 _ _ _ rfl (cmpP fi fn pi pn) 0 rfl rfl true hg _) ?_)
  refine nr ?_; intro U h; simp only [z0, z1] at h; subst h
  refine mv 29 (vTr) (jn 30 rfl rfl y2 rfl (pK p 0) (rfl) (jn 31 rfl rfl y2 rfl (pK p 0) (jl _ rfl _ rfl) ?_))
  refine nr ?_; intro U h; simp only [z0, z1] at h; subst h
  refine jn 32 rfl rfl y2 rfl (pK p 17) (jc 98 _ 2 rfl _ _ rfl _) (jn 33 rfl rfl y2 rfl (vTr) (je 4 _ rfl p 17 rfl 98 _ kp (na4 _) _ rfl) (mv 34 (vTr) ?_))
  refine nr ?_; intro U h; simp only [z0, z1] at h; subst h
  refine mv 8 (vTr) (wpList_nil (ja (wp_seq (wp_seq (wp_region_lit (mv 35 (vTr) (wpList_nil (ja (wp_cond_true rfl (wp_region_lit (mv 36 (pK p 0) ?_)))))))))))
  refine nr ?_; intro U h; simp only [z0, z1] at h; subst h
  refine sv 37 (.agg (c29 ni nn)) (jk 29 _ rfl g2 0 2 rfl 29 _ kg2 _ Try.underlying29 rfl si29 _) (sv 38 (pK p 0) (jl _ rfl _ rfl) (sv 39 (pK p 18) (jc 98 _ 3 rfl _ _ rfl _) ?_))
  refine nr ?_; intro U h; simp only [z0, z1] at h; subst h
  refine jo rfl rfl 29 _ _ rfl p 18 rfl (.agg (c29 ni nn)) rfl 98 _ kp (c29 ni nn) rfl (by kernel_rfl) (nlB rfl) (by kernel_rfl) (c98 id up true ni nn pi pn oth (some ⟨wp, 0, none⟩)) (by kernel_rfl) ?_
  intro w7 St
  replace kg1 := St.has (by omega) kg1
  replace kg2 := St.has (by omega) kg2
  replace kg3 := St.has (by omega) kg3
  replace HW := HW.stT (by decide) (by decide) (by decide) kp St
  replace GG := GG.st St (.inr (by simp))
  replace kp := St.new
  clear St
  refine wpList_nil (ja (wp_seq (wp_seq (wp_region_lit (mv 40 (iK (cmpP fi fn pi pn)) (sv 41 (vTr) (jD 3 _ _ _ rfl (cmpP fi fn pi pn) 0 rfl rfl true hg _) (wpList_nil (ja (wp_cond_true rfl ?_)))))))))
  clear HW
  refine jJ (A := ?Ap4) (fun L x => GroS [p] w x ∧ x.heap[p]? = some (.cells (cond (L 17) (c98 id up false ni nn fi fn a (some ⟨wp, 0, none⟩)) (cond (L 14) (c98 id up false ni nn fi fn oth (some ⟨wp, 0, none⟩)) (cond (L 11) (c98 id up false ni nn pi pn oth (some ⟨wp, 0, none⟩)) (c98 id up true ni nn pi pn oth (some ⟨wp, 0, none⟩))))) 98 (0, 0)) ∧ x.heap[g1]? = some (.cells (c110 fi fn ti tn a) 110 (0, 0)) ∧ x.heap[g2]? = some (.cells (c29 ni nn) 29 (0, 0)) ∧ x.heap[g3]? = some (.cells (c59 false false Sl.nil false Sl.nil) 59 (0, 0))) 18 [(0, 42), (1, 43), (2, 44), (3, 45), (4, 46), (5, 47), (6, 48), (7, 49), (8, 50), (9, 51), (10, 52), (12, 53), (13, 54), (15, 55), (16, 56)] [.val (pK p 0), .val (pK p 0), .val (pK p 0), .val (pK p 0), .val (pK g1 0), .val (.agg (c29 fi fn)), .val (pK g1 4), .val (.agg (c23 a)), nwE w.heap.size, .val (pK p 0), .val (pK p 17), .val undef, .val (pK p 0), .val (pK p 20), .val undef, .val (pK p 0), .val (pK p 22), .val undef] [] [8] follows (by kernel_rfl) rfl (by kernel_rfl) (by decide) ⟨GG.drew, (Gro.refl _).drew.has kp, (Gro.refl _).drew.has kg1, (Gro.refl _).drew.has kg2, (Gro.refl _).drew.has kg3⟩ ?hAp4 (ji (fun _ _ _ h _ G => ⟨h.1.tg G, G.has h.2.1, G.has h.2.2.1, G.has h.2.2.2.1, G.has h.2.2.2.2⟩) ?o0p4 (ji (fun _ _ _ h _ G => ⟨h.1.tg G, G.has h.2.1, G.has h.2.2.1, G.has h.2.2.2.1, G.has h.2.2.2.2⟩) ?o1p4 (ji (fun _ _ _ h _ G => ⟨h.1.tg G, G.has h.2.1, G.has h.2.2.1, G.has h.2.2.2.1, G.has h.2.2.2.2⟩) ?o2p4 (ji (fun _ _ _ h _ G => ⟨h.1.tg G, G.has h.2.1, G.has h.2.2.1, G.has h.2.2.2.1, G.has h.2.2.2.2⟩) ?o3p4 (ji (fun _ _ _ h _ G => ⟨h.1.tg G, G.has h.2.1, G.has h.2.2.1, G.has h.2.2.2.1, G.has h.2.2.2.2⟩) ?o4p4 (ji (fun _ _ _ h _ G => ⟨h.1.tg G, G.has h.2.1, G.has h.2.2.1, G.has h.2.2.2.1, G.has h.2.2.2.2⟩) ?o5p4 (ji (fun _ _ _ h _ G => ⟨h.1.tg G, G.has h.2.1, G.has h.2.2.1, G.has h.2.2.2.1, G.has h.2.2.2.2⟩) ?o6p4 (ji (fun _ _ _ h _ G => ⟨h.1.tg G, G.has h.2.1, G.has h.2.2.1, G.has h.2.2.2.1, G.has h.2.2.2.2⟩) ?o7p4 (ji (fun _ _ _ h _ G => ⟨h.1.tg G, G.has h.2.1, G.has h.2.2.1, G.has h.2.2.2.1, G.has h.2.2.2.2⟩) ?o8p4 (ji (fun _ _ _ h _ G => ⟨h.1.tg G, G.has h.2.1, G.has h.2.2.1, G.has h.2.2.2.1, G.has h.2.2.2.2⟩) ?o9p4 (ji (fun _ _ _ h _ G => ⟨h.1.tg G, G.has h.2.1, G.has h.2.2.1, G.has h.2.2.2.1, G.has h.2.2.2.2⟩) ?o10p4 (jX ?o11p4 (ji (fun _ _ _ h _ G => ⟨h.1.tg G, G.has h.2.1, G.has h.2.2.1, G.has h.2.2.2.1, G.has h.2.2.2.2⟩) ?o12p4 (ji (fun _ _ _ h _ G => ⟨h.1.tg G, G.has h.2.1, G.has h.2.2.1, G.has h.2.2.2.1, G.has h.2.2.2.2⟩) ?o13p4 (jX ?o14p4 (ji (fun _ _ _ h _ G => ⟨h.1.tg G, G.has h.2.1, G.has h.2.2.1, G.has h.2.2.2.1, G.has h.2.2.2.2⟩) ?o15p4 (ji (fun _ _ _ h _ G => ⟨h.1.tg G, G.has h.2.1, G.has h.2.2.1, G.has h.2.2.2.1, G.has h.2.2.2.2⟩) ?o16p4 (jX ?o17p4 zc)))))))))))))))))) ?restp4
  case hAp4 =>
    intro ptrs
    simp only [full, foldSlots, filledE, postE, List.foldl_cons, List.foldl_nil, List.getD_cons_zero, List.getD_cons_succ, ju, yW,  List.set_cons_zero, List.set_cons_succ]
    exact rfl
  case o0p4 => exact fun _ _ _ _ _ _ _ _ => jj (v := pK p 0) _ rfl rfl rfl
  case o1p4 => exact fun _ _ _ _ _ _ _ _ => jj (v := pK p 0) _ rfl rfl rfl
  case o2p4 => exact fun _ _ _ _ _ _ _ _ => jj (v := pK p 0) _ rfl rfl rfl
  case o3p4 => exact fun _ _ _ _ _ _ _ _ => jj (v := pK p 0) _ rfl rfl rfl
  case o4p4 => exact fun _ _ x hx _ _ _ _ => jb (v := pK g1 0) rfl (jc 110 _ 0 rfl _ _ rfl _)
  case o5p4 => exact fun _ _ x hx _ _ _ _ => jb (v := .agg (c29 fi fn)) rfl (jk 29 _ rfl g1 0 2 rfl 110 _ hx.2.2.1 _ Try.underlying29 rfl si29 _)
  case o6p4 => exact fun _ _ x hx _ _ _ _ => jb (v := pK g1 4) rfl (jc 110 _ 2 rfl _ _ rfl _)
  case o7p4 => exact fun _ _ x hx _ _ _ _ => jb (v := .agg (c23 a)) rfl (jk 23 _ rfl g1 4 16 rfl 110 _ hx.2.2.1 _ Try.underlying23 rfl si23 _)
  case o8p4 =>
    intro _ _ x hx _ _ _ _
    exact zK (nwE w.heap.size) rfl _ 34 Try.call34 rfl rfl _ rfl [] rfl ((yT _).mono fun e w' ⟨g, he, hg, hz, hk⟩ => ⟨_, he, hg, g, rfl, Nat.le_trans hx.1.size hz, hk.base0 hx.1.size⟩)
  case o9p4 => exact fun _ _ x hx _ _ _ _ => jb (v := pK p 0) rfl (jl _ rfl _ rfl)
  case o10p4 => exact fun _ _ x hx _ _ _ _ => jb (v := pK p 17) rfl (jc 98 _ 2 rfl _ _ rfl _)
  case o11p4 =>
    intro L ptrs x hx hL hed hno _
    have hk := hx.2.1
    have h14 : L 14 = false := hno 14 (by kernel_rfl)
    have h17 : L 17 = false := hno 17 (by kernel_rfl)
    rw [h17, h14, hL] at hk
    replace hk : x.heap[p]? = some (.cells (c98 id up true ni nn pi pn oth (some ⟨wp, 0, none⟩)) 98 (0, 0)) := hk
    refine zb _ rfl 4 _ _ rfl p 17 rfl (vFa) rfl 98 _ hk #[vFa] rfl (by kernel_rfl) (nlB rfl) (by kernel_rfl) (c98 id up false ni nn pi pn oth (some ⟨wp, 0, none⟩)) (by kernel_rfl) ?_
    intro y St
    exact ⟨⟨⟨hx.1.st St (.inr (by simp)), (by rw [show upd L 11 17 = false from h17, show upd L 11 14 = false from h14]; exact St.new), St.has (by omega) hx.2.2.1, St.has (by omega) hx.2.2.2.1, St.has (by omega) hx.2.2.2.2⟩, StM.valsX [0, 1, 2, 3, 4, 5, 6, 7, 9, 10, 12, 13, 14, 15, 16, 17] [8] (by kernel_rfl) ⟨⟨_, rfl⟩, ⟨_, rfl⟩, ⟨_, rfl⟩, ⟨_, rfl⟩, ⟨_, rfl⟩, ⟨_, rfl⟩, ⟨_, rfl⟩, ⟨_, rfl⟩, ⟨_, rfl⟩, ⟨_, rfl⟩, ⟨_, rfl⟩, ⟨_, rfl⟩, ⟨_, rfl⟩, ⟨_, rfl⟩, ⟨_, rfl⟩, ⟨_, rfl⟩, trivial⟩ (fun j hj u hp => by cases List.mem_singleton.1 hj; obtain ⟨g, h1, h2, h3⟩ := hp; exact ⟨g, h1, h2, h3.stT (by decide) (by decide) (by decide) hk St⟩)⟩, rfl⟩
  case o12p4 => exact fun _ _ x hx _ _ _ _ => jb (v := pK p 0) rfl (jl _ rfl _ rfl)
  case o13p4 => exact fun _ _ x hx _ _ _ _ => jb (v := pK p 20) rfl (jc 98 _ 4 rfl _ _ rfl _)
  case o14p4 =>
    intro L ptrs x hx hL hed hno _
    have hk := hx.2.1
    have h11 : L 11 = true := hed 11 (by kernel_rfl)
    have h17 : L 17 = false := hno 17 (by kernel_rfl)
    rw [h17, hL, h11] at hk
    replace hk : x.heap[p]? = some (.cells (c98 id up false ni nn pi pn oth (some ⟨wp, 0, none⟩)) 98 (0, 0)) := hk
    refine zb _ rfl 29 _ _ rfl p 20 rfl (.agg (c29 fi fn)) rfl 98 _ hk (c29 fi fn) rfl (by kernel_rfl) (nlB rfl) (by kernel_rfl) (c98 id up false ni nn fi fn oth (some ⟨wp, 0, none⟩)) (by kernel_rfl) ?_
    intro y St
    exact ⟨⟨⟨hx.1.st St (.inr (by simp)), (by rw [show upd L 14 17 = false from h17]; exact St.new), St.has (by omega) hx.2.2.1, St.has (by omega) hx.2.2.2.1, St.has (by omega) hx.2.2.2.2⟩, StM.valsX [0, 1, 2, 3, 4, 5, 6, 7, 9, 10, 11, 12, 13, 15, 16, 17] [8] (by kernel_rfl) ⟨⟨_, rfl⟩, ⟨_, rfl⟩, ⟨_, rfl⟩, ⟨_, rfl⟩, ⟨_, rfl⟩, ⟨_, rfl⟩, ⟨_, rfl⟩, ⟨_, rfl⟩, ⟨_, rfl⟩, ⟨_, rfl⟩, ⟨_, rfl⟩, ⟨_, rfl⟩, ⟨_, rfl⟩, ⟨_, rfl⟩, ⟨_, rfl⟩, ⟨_, rfl⟩, trivial⟩ (fun j hj u hp => by cases List.mem_singleton.1 hj; obtain ⟨g, h1, h2, h3⟩ := hp; exact ⟨g, h1, h2, h3.stT (by decide) (by decide) (by decide) hk St⟩)⟩, rfl⟩
  case o15p4 => exact fun _ _ x hx _ _ _ _ => jb (v := pK p 0) rfl (jl _ rfl _ rfl)
  case o16p4 => exact fun _ _ x hx _ _ _ _ => jb (v := pK p 22) rfl (jc 98 _ 5 rfl _ _ rfl _)
  case o17p4 =>
    intro L ptrs x hx hL hed hno _
    have hk := hx.2.1
    have h11 : L 11 = true := hed 11 (by kernel_rfl)
    have h14 : L 14 = true := hed 14 (by kernel_rfl)
    rw [hL, h14, h11] at hk
    replace hk : x.heap[p]? = some (.cells (c98 id up false ni nn fi fn oth (some ⟨wp, 0, none⟩)) 98 (0, 0)) := hk
    refine zb _ rfl 23 _ _ rfl p 22 rfl (.agg (c23 a)) rfl 98 _ hk (c23 a) rfl (by kernel_rfl) (nlB rfl) (by kernel_rfl) (c98 id up false ni nn fi fn a (some ⟨wp, 0, none⟩)) (by kernel_rfl) ?_
    intro y St
    exact ⟨⟨⟨hx.1.st St (.inr (by simp)), St.new, St.has (by omega) hx.2.2.1, St.has (by omega) hx.2.2.2.1, St.has (by omega) hx.2.2.2.2⟩, StM.valsX [0, 1, 2, 3, 4, 5, 6, 7, 9, 10, 11, 12, 13, 14, 15, 16] [8] (by kernel_rfl) ⟨⟨_, rfl⟩, ⟨_, rfl⟩, ⟨_, rfl⟩, ⟨_, rfl⟩, ⟨_, rfl⟩, ⟨_, rfl⟩, ⟨_, rfl⟩, ⟨_, rfl⟩, ⟨_, rfl⟩, ⟨_, rfl⟩, ⟨_, rfl⟩, ⟨_, rfl⟩, ⟨_, rfl⟩, ⟨_, rfl⟩, ⟨_, rfl⟩, ⟨_, rfl⟩, trivial⟩ (fun j hj u hp => by cases List.mem_singleton.1 hj; obtain ⟨g, h1, h2, h3⟩ := hp; exact ⟨g, h1, h2, h3.stT (by decide) (by decide) (by decide) hk St⟩)⟩, rfl⟩
  intro ptrs w8 HJ hxE
  simp only [List.drop_succ_cons, List.drop_zero]
  clear GG kp kg1 kg2 kg3
  obtain ⟨GG, kp, kg1, kg2, kg3⟩ := HJ
  replace kp : w8.heap[p]? = some (.cells (c98 id up false ni nn fi fn a (some ⟨wp, 0, none⟩)) 98 (0, 0)) := kp
  obtain ⟨⟨wp2, hv, hwp2, HW2⟩, _⟩ := hxE
  simp only [hv]
  clear hv hxE
  refine sv 57 (pK p 0) (jl _ rfl _ rfl) ?_
  refine nr ?_; intro U h; simp only [z0, z1] at h; subst h
  refine sv 58 (pK p 38) (jc 98 _ 6 rfl _ _ rfl _) ?_
  refine jo rfl rfl 95 _ _ rfl p 38 rfl (pK wp2 0) rfl 98 _ kp #[pK wp2 0] rfl (by kernel_rfl) (nlB rfl) (by kernel_rfl) (c98 id up false ni nn fi fn a (some ⟨wp2, 0, none⟩)) (by kernel_rfl) ?_
  intro w10 St
  replace kg1 := St.has (by omega) kg1
  replace kg2 := St.has (by omega) kg2
  replace kg3 := St.has (by omega) kg3
  replace HW2 := HW2.stT (by decide) (by decide) (by decide) kp St
  replace GG := GG.st St (.inr (by simp))
  replace kp := St.new
  clear St
  refine wpList_nil (ja (wp_seq ?_))
  refine jw (A := ?Ax16) 6 [(0, 59), (1, 60), (2, 61), (3, 62), (4, 63), (5, 64)] [.val (pK g1 2), .val (.agg (c29 ti tn)), .val (pK p 0), .val (pK p 0), .val (pK p 18), .val (.agg (c29 ni nn))] follows (by kernel_rfl) rfl ?hAx16 (jd ?o0x16 (jd ?o1x16 (jd ?o2x16 (jd ?o3x16 (jd ?o4x16 (jd ?o5x16 jM)))))) ?restx16
  case hAx16 =>
    intro ptrs
    simp only [full, foldSlots, filledE, postE, List.foldl_cons, List.foldl_nil, List.getD_cons_zero, List.getD_cons_succ, ju, List.set_cons_zero, List.set_cons_succ]
    exact rfl
  case o0x16 => exact fun _ _ hw _ => jb (v := pK g1 2) rfl (jc 110 _ 1 rfl _ _ rfl _)
  case o1x16 => exact fun _ _ hw _ => jb (v := .agg (c29 ti tn)) rfl (jk 29 _ rfl g1 2 2 rfl 110 _ (hw.has kg1) _ Try.underlying29 rfl si29 _)
  case o2x16 => exact fun _ _ _ _ => jj (v := pK p 0) _ rfl rfl rfl
  case o3x16 => exact fun _ _ hw _ => jb (v := pK p 0) rfl (jl _ rfl _ rfl)
  case o4x16 => exact fun _ _ hw _ => jb (v := pK p 18) rfl (jc 98 _ 3 rfl _ _ rfl _)
  case o5x16 => exact fun _ _ hw _ => jb (v := .agg (c29 ni nn)) rfl (jk 29 _ rfl p 18 2 rfl 98 _ (hw.has kp) _ Try.underlying29 rfl si29 _)
  intro ptrs w11 GD hxE
  simp only [List.drop_succ_cons, List.drop_zero]
  replace kp := GD.has kp
  replace kg1 := GD.has kg1
  replace kg2 := GD.has kg2
  replace kg3 := GD.has kg3
  replace HW2 := HW2.gro ((Gro.refl _).drew.trans GD)
  replace GG := GG.drew.tg GD
  clear GD
  refine sv 65 (vTr) (jW _ _ _ rfl ti tn ni nn rfl rfl true (hs) _) (mv 9 (vTr) ?_)
  refine nr ?_; intro U h; simp only [z0, z1] at h; subst h
  refine wpList_nil (ja (wp_seq ?_))
  refine jr ?_
  intro OPS hY
  have y1 := hY 1 67 rfl
  clear hY
  refine mv 66 (vTr) (mv 67 (vTr) (jn 68 rfl rfl y1 rfl (pK p 0) (rfl) ?_))
  refine nr ?_; intro U h; simp only [z0, z1] at h; subst h
  refine yE 69 rfl rfl y1 rfl _ 56 Try.call56 rfl rfl _ rfl [pK p 0] rfl (zC _ p wp2 w.heap.size id up false ni nn fi fn a none 0 [] 0 0 ⟨kp, HW2⟩) (fun _ _ ⟨he, _⟩ => ⟨_, he⟩) ?_
  rintro v w12 ⟨he, G, HE⟩
  cases he
  replace kg1 := G.has kg1 (by simp; omega)
  replace kg2 := G.has kg2 (by simp; omega)
  replace kg3 := G.has kg3 (by simp; omega)
  replace GG := GG.trans G
  clear kp HW2 G
  have kp := HE.box
  have HW2 := HE.win
  clear HE
  refine mv 70 (vTr) (mv 10 (vTr) ?_)
  refine nr ?_; intro U h; simp only [z0, z1] at h; subst h
  refine wpList_nil (ja (wp_seq (wp_seq ?_)))
  refine jr ?_
  intro OPS hY
  have y1 := hY 1 72 rfl
  clear hY
  refine mv 71 (vTr) (mv 72 (vTr) (jn 73 rfl rfl y1 rfl (vTr) (rfl) ?_))
  refine nr ?_; intro U h; simp only [z0, z1] at h; subst h
  refine jn 74 rfl rfl y1 rfl (vFa) (jU _ _ rfl true rfl) (mv 75 (vFa) (wpList_nil (ja (wp_cond_false rfl (wp_skip (ja (wp_seq (wp_region_lit (mv 80 (vTr) ?_)))))))))
  refine nr ?_; intro U h; simp only [z0, z1] at h; subst h
  refine mv 81 (vTr) (mv 82 (pK p 0) ?_)
  refine jt 83 rfl rfl _ 35 Try.call35 rfl rfl _ rfl [pK p 0] rfl (zn _ p wp2 w.heap.size id up true ni nn fi fn a none 0 [] 0 0 ⟨kp, HW2⟩) (fun _ _ ⟨_, _, _, _, _, he, _⟩ => ⟨_, he⟩) ?_
  rintro v w13 ⟨s1g, s2g, s3g, aog, capg, he, HVg, G⟩
  cases he
  replace kp := G.has kp
  replace kg1 := G.has kg1
  replace kg2 := G.has kg2
  replace kg3 := G.has kg3
  replace HW2 := HW2.gro G
  replace GG := GG.tg G
  clear G
  refine nr ?_; intro U h; simp only [z0, z1] at h; subst h
  refine zR 84 rfl rfl 50 1 _ rfl [(0, .agg (c46 1 zF 0 false id zF 0 ni nn fi fn s1g s2g zF 0 zF s3g 0 0 ⟨aog, 0, capg⟩))] rfl (c46 1 zF 0 false id zF 0 ni nn fi fn s1g s2g zF 0 zF s3g 0 0 ⟨aog, 0, capg⟩) 46 (by kernel_rfl) ?_
  intro w14 g4 G eg4 kg4
  have bg4 := jz GG eg4
  have dpg4 := jf kp eg4
  have dg1g4 := jf kg1 eg4
  have dg2g4 := jf kg2 eg4
  have dg3g4 := jf kg3 eg4
  replace kp := G.has kp
  replace kg1 := G.has kg1
  replace kg2 := G.has kg2
  replace kg3 := G.has kg3
  replace HW2 := HW2.gro G
  replace HVg := HVg.gro G
  replace GG := GG.tg G
  clear G eg4
  refine sv 85 (.agg (c59 true true Sl.nil false ⟨some ⟨g4, 0, none⟩, 1, 1⟩)) (jA 59 _ rfl [(0, vTr), (1, vTr), (4, .slice (some ⟨g4, 0, none⟩) 1 1)] rfl _ (by kernel_rfl)) ?_
  refine jo rfl rfl 59 _ _ rfl g3 0 rfl (.agg (c59 true true Sl.nil false ⟨some ⟨g4, 0, none⟩, 1, 1⟩)) rfl 59 _ kg3 (c59 true true Sl.nil false ⟨some ⟨g4, 0, none⟩, 1, 1⟩) rfl (by kernel_rfl) (nlB rfl) (by kernel_rfl) (c59 true true Sl.nil false ⟨some ⟨g4, 0, none⟩, 1, 1⟩) (by kernel_rfl) ?_
  intro w16 St
  replace kp := St.has (by omega) kp
  replace kg1 := St.has (by omega) kg1
  replace kg2 := St.has (by omega) kg2
  replace kg4 := St.has (by omega) kg4
  replace HW2 := HW2.stT (by decide) (by decide) (by decide) kg3 St
  replace HVg := HVg.no5 ((GroS.refl [g3] _).st St (.inr (by simp))) (jv kg3 (by decide))
  replace GG := GG.st St (.inl bg3)
  replace kg3 := St.new
  clear St
  refine wpList_nil (ja (wp_ret ?_))
  refine bodyPost_ret (results_cell_row Try.results44 _ _ g3 59 _ (0, 0) _ rfl kg3 Try.underlying59 rfl (by kernel_rfl)) rfl ?_
  exact ⟨_, (p :: wp2 :: blk none), [], rfl, TV.one (f := pfr ⟨1, id, ni, nn, fi, fn, 0, []⟩ s1g s2g s3g ⟨aog, 0, capg⟩) kg4 HVg, ⟨wp2, _, none, 0, [], ⟨kp, HW2⟩, rfl, rfl, rfl⟩, GG.p1, Fresh.win hwp2, Fresh.nil0 _ _⟩
theorem uS {a b : Prop} [Decidable a] [Decidable b] (h : (decide a && decide b) = false) : ¬ (a ∧ b) := fun ⟨ha, hb⟩ => by simp [ha, hb] at h
theorem va {a b : Prop} [Decidable a] [Decidable b] (h : (decide a && decide b) = true) : a ∧ b := by simpa using h
theorem Jg (w : World) (p wp B : Nat) (id : Nat → Nat) (up op : Bool) (mi mn pi pn : Int) (oth : Nat → Nat) (ro : Option Addr) (rc : Nat) (q : List RV) (k c : Nat) (H : EW w p wp B id up op mi mn pi pn oth ro rc q k c) (fi fn ti tn : Int) (a : Nat → Nat) (ni nn n : Int) (kd : Int) (tx : List Nat) (hk : k + q.length ≤ 100000) (hc : c ≤ 100000) : Calls Try.prog 44 #[pK p 0, .agg (c110 fi fn ti tn a), .agg (c29 ni nn)] w (HearP w p id (p :: wp :: blk ro) (txb q) (helloS id ⟨up, op, mi, mn, pi, pn, oth, k, (q.map (·.l)), c⟩ ⟨kd, a, fi, fn, ti, tn, n, tx⟩ ni nn)) := by
  have ln := Yq fi fn pi pn
  have lp := Yp fi fn pi pn
  cases hl : decide (cmpP fi fn pi pn < 0)
  case true =>
    rw [hl] at ln
    rw [show helloS id ⟨up, op, mi, mn, pi, pn, oth, k, (q.map (·.l)), c⟩ ⟨kd, a, fi, fn, ti, tn, n, tx⟩ ni nn = (⟨up, op, mi, mn, pi, pn, oth, k, (q.map (·.l)), c⟩, PT.no) from if_pos (.inl ln.symm)]; exact uI w p wp B id up op mi mn pi pn oth ro rc q k c H fi fn ti tn a ni nn hl
  rw [hl] at ln
  cases hz : (decide (fi = 0) && decide (fn = 0))
  case true =>
    rw [show helloS id ⟨up, op, mi, mn, pi, pn, oth, k, (q.map (·.l)), c⟩ ⟨kd, a, fi, fn, ti, tn, n, tx⟩ ni nn = (⟨up, op, mi, mn, pi, pn, oth, k, (q.map (·.l)), c⟩, PT.no) from if_pos (.inr (va hz))]; exact uG w p wp B id up op mi mn pi pn oth ro rc q k c H fi fn ti tn a ni nn hl hz
  have h0 : ¬ (lessN fi fn pi pn = true ∨ (fi = 0 ∧ fn = 0)) := by
    rintro (h | h)
    · rw [← ln] at h
      cases h
    · exact uS hz h
  cases hg : decide (0 < cmpP fi fn pi pn)
  case false =>
    rw [hg] at lp
    rw [show helloS id ⟨up, op, mi, mn, pi, pn, oth, k, (q.map (·.l)), c⟩ ⟨kd, a, fi, fn, ti, tn, n, tx⟩ ni nn = metS id false ⟨up, op, mi, mn, pi, pn, oth, k, (q.map (·.l)), c⟩ ⟨kd, a, fi, fn, ti, tn, n, tx⟩ from (if_neg h0).trans (if_neg (by rw [← lp]; simp))]
    cases hs : (decide (ti = mi) && decide (tn = mn))
    case false => rw [show metS id false ⟨up, op, mi, mn, pi, pn, oth, k, (q.map (·.l)), c⟩ ⟨kd, a, fi, fn, ti, tn, n, tx⟩ = (⟨up, op, mi, mn, pi, pn, oth, k, (q.map (·.l)), c⟩, ⟨false, false, [], false, [⟨1, id, mi, mn, pi, pn, 0, []⟩]⟩) from if_neg (uS hs)]; exact uH w p wp B id up op mi mn pi pn oth ro rc q k c H fi fn ti tn a ni nn hl hz hg hs
    cases op
    · rw [show metS id false ⟨up, false, mi, mn, pi, pn, oth, k, (q.map (·.l)), c⟩ ⟨kd, a, fi, fn, ti, tn, n, tx⟩ = (⟨up, true, mi, mn, pi, pn, oth, k, (q.map (·.l)), c⟩, ⟨false, true, [], false, [⟨1, id, mi, mn, pi, pn, 0, []⟩]⟩) from if_pos (va hs)]; exact vT w p wp B id up mi mn pi pn oth ro rc q k c H fi fn ti tn a ni nn hl hz hg hs
    · rw [show metS id false ⟨up, true, mi, mn, pi, pn, oth, k, (q.map (·.l)), c⟩ ⟨kd, a, fi, fn, ti, tn, n, tx⟩ = (⟨up, true, mi, mn, pi, pn, oth, k, (q.map (·.l)), c⟩, ⟨false, false, [], false, [⟨3, zF, mi, mn, pi, pn, ((c : Nat) : Int), []⟩]⟩) from if_pos (va hs)]; exact Jh w p wp B id up mi mn pi pn oth ro rc q k c H fi fn ti tn a ni nn hl hz hg hs hk hc
  rw [hg] at lp
  rw [show helloS id ⟨up, op, mi, mn, pi, pn, oth, k, (q.map (·.l)), c⟩ ⟨kd, a, fi, fn, ti, tn, n, tx⟩ ni nn = metS id op (anewS ⟨up, op, mi, mn, pi, pn, oth, k, (q.map (·.l)), c⟩ ⟨kd, a, fi, fn, ti, tn, n, tx⟩ ni nn) ⟨kd, a, fi, fn, ti, tn, n, tx⟩ from (if_neg h0).trans (if_pos lp.symm)]
  cases op
  · cases hs : (decide (ti = mi) && decide (tn = mn))
    case false => rw [show metS id false (anewS ⟨up, false, mi, mn, pi, pn, oth, k, (q.map (·.l)), c⟩ ⟨kd, a, fi, fn, ti, tn, n, tx⟩ ni nn) ⟨kd, a, fi, fn, ti, tn, n, tx⟩ = (⟨up, false, mi, mn, fi, fn, a, 0, [], 0⟩, ⟨false, false, [], false, [⟨1, id, mi, mn, fi, fn, 0, []⟩]⟩) from if_neg (uS hs)]; exact uK w p wp B id up mi mn pi pn oth ro rc q k c H fi fn ti tn a ni nn hl hz hg hs
    rw [show metS id false (anewS ⟨up, false, mi, mn, pi, pn, oth, k, (q.map (·.l)), c⟩ ⟨kd, a, fi, fn, ti, tn, n, tx⟩ ni nn) ⟨kd, a, fi, fn, ti, tn, n, tx⟩ = (⟨up, true, mi, mn, fi, fn, a, 0, [], 0⟩, ⟨false, true, [], false, [⟨1, id, mi, mn, fi, fn, 0, []⟩]⟩) from if_pos (va hs)]; exact yL w p wp B id up mi mn pi pn oth ro rc q k c H fi fn ti tn a ni nn hl hz hg hs
  · cases hs : (decide (ti = ni) && decide (tn = nn))
    case false => rw [show metS id true (anewS ⟨up, true, mi, mn, pi, pn, oth, k, (q.map (·.l)), c⟩ ⟨kd, a, fi, fn, ti, tn, n, tx⟩ ni nn) ⟨kd, a, fi, fn, ti, tn, n, tx⟩ = (⟨up, false, ni, nn, fi, fn, a, 0, [], 0⟩, ⟨true, false, [], false, [⟨1, id, ni, nn, fi, fn, 0, []⟩]⟩) from if_neg (uS hs)]; exact uJ w p wp B id up mi mn pi pn oth ro rc q k c H fi fn ti tn a ni nn hl hz hg hs
    rw [show metS id true (anewS ⟨up, true, mi, mn, pi, pn, oth, k, (q.map (·.l)), c⟩ ⟨kd, a, fi, fn, ti, tn, n, tx⟩ ni nn) ⟨kd, a, fi, fn, ti, tn, n, tx⟩ = (⟨up, true, ni, nn, fi, fn, a, 0, [], 0⟩, ⟨true, true, [], false, [⟨1, id, ni, nn, fi, fn, 0, []⟩]⟩) from if_pos (va hs)]; exact yK w p wp B id up mi mn pi pn oth ro rc q k c H fi fn ti tn a ni nn hl hz hg hs
end Go.Proofs.Ytlfanecaglbomaa
