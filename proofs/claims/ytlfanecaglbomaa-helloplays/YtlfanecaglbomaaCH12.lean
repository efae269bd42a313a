/- The document's end: Data and Ack. -/
import Derived.Test.YtlfanecaglbomaaCH11
namespace Go.Proofs.Ytlfanecaglbomaa
set_option maxRecDepth 100000
set_option maxHeartbeats 4000000
open Go.RowKit
theorem rno_2_0 (w : World) (r B : Nat) (id : Nat → Nat) (op : Bool) (mi mn pi pn : Int) (oth : Nat → Nat) (so : Option Addr) (sc : Nat) (u : List RV) (k c : Nat) (H : WX 34 (c34 id true op mi mn pi pn oth ⟨so, u.length, sc⟩ ((k : Nat) : Int) ((c : Nat) : Int)) w r B so sc u) (hk : k ≤ u.length) (f : Fr) (ni nn : Int) (hf1 : ¬ f.kind = 1) (hf2 : f.kind = 2) (ht : (decide (f.ti = mi) && decide (f.tn = mn)) = false) : Calls Try.prog 22 #[pK r 0, .agg (frA f), .agg (c29 ni nn)] w (HearD w r id (r :: blk so) (txb u) (⟨true, op, mi, mn, pi, pn, oth, k, ((u.drop k).map (·.l)), c⟩, PT.no)) := by
  refine jp Try.func22 rfl Try.ntmps22 [pK r 0, .agg (frA f), .agg (c29 ni nn)] ?_
  intro U h; simp only [List.length_cons, List.length_nil, List.cons_append, List.nil_append, Nat.reduceAdd, Nat.reduceSub, List.reduceReplicate] at h; subst h
  have GG := GroS.refl [r] w
  have kr := H.box
  have hpl := H.lt
  have hBl := H.bl
  refine wp_seq (wp_region_lit ?_)
  refine jB 4 rfl rfl 46 _ rfl _ rfl (frA f) rfl ?_
  intro w1 g1 G eg1 kg1
  have bg1 := jl GG eg1
  have drg1 := je kr eg1
  replace kr := G.has kr
  replace GG := GG.tg G
  clear G eg1
  refine jB 5 rfl rfl 29 _ rfl _ rfl (c29 ni nn) rfl ?_
  intro w2 g2 G eg2 kg2
  have bg2 := jl GG eg2
  have drg2 := je kr eg2
  have dg1g2 := je kg1 eg2
  replace kr := G.has kr
  replace kg1 := G.has kg1
  replace GG := GG.tg G
  clear G eg2
  refine jq 6 rfl rfl 62 rfl _ zv62 _ rfl ?_
  intro w3 g3 G eg3 kg3
  have bg3 := jl GG eg3
  have drg3 := je kr eg3
  have dg1g3 := je kg1 eg3
  have dg2g3 := je kg2 eg3
  replace kr := G.has kr
  replace kg1 := G.has kg1
  replace kg2 := G.has kg2
  replace GG := GG.tg G
  clear G eg3
  refine wpList_nil (jc (wp_seq (wp_region_lit ?_)))
  refine jq 7 rfl rfl 62 rfl _ zv62 _ rfl ?_
  intro w4 g4 G eg4 kg4
  have bg4 := jl GG eg4
  have drg4 := je kr eg4
  have dg1g4 := je kg1 eg4
  have dg2g4 := je kg2 eg4
  have dg3g4 := je kg3 eg4
  replace kr := G.has kr
  replace kg1 := G.has kg1
  replace kg2 := G.has kg2
  replace kg3 := G.has kg3
  replace GG := GG.tg G
  clear G eg4
  refine wpList_nil (jc (wp_seq (wp_seq (wp_region_lit (mv 8 (pK r 0) (sv 9 (pK r 0) (jj _ rfl _ rfl) (sv 10 (pK r 16) (jd 34 _ 1 rfl _ _ rfl _) (sv 11 (vTr) (jh 4 _ rfl r 16 rfl 34 _ kr (na4 _) _ rfl) (sv 12 (vFa) (jE _ _ rfl true rfl) ?_)))))))))
  refine nr ?_; intro U h; simp only [z0, z1] at h; subst h
  refine wpList_nil (jc (wp_cond_false rfl (wp_skip (jc (wp_seq (wp_seq (wp_region_lit (sv 14 (pK g1 0) (jd 46 _ 0 rfl _ _ rfl _) (sv 15 (iK f.kind) (jh 3 _ rfl g1 0 rfl 46 _ kg1 (na3 _) _ rfl) (wpList_nil (jc (wp_block (wp_seq (wp_region_lit (sv 17 (vFa) (jo 3 .i64 _ _ _ rfl Try.underlying3 f.kind 1 rfl rfl false (decide_eq_false hf1) _) ?_)))))))))))))))
  refine mv 16 (vFa) (wpList_nil (jc (wp_cond_false rfl (wp_seq (wp_region_lit (sv 115 (vTr) (jo 3 .i64 _ _ _ rfl Try.underlying3 f.kind 2 rfl rfl true (decide_eq_true hf2) _) (mv 114 (vTr) (wpList_nil (jc (wp_cond_true rfl (wp_seq (wp_seq ?_))))))))))))
  refine jk (A := ?Ax38) 14 [(0, 116), (1, 117), (2, 118), (3, 119), (4, 120), (5, 121), (6, 122), (7, 123), (8, 124), (9, 125), (10, 126), (11, 127), (12, 128), (13, 129)] [.val (pK g1 54), .val (.agg (c29 f.ti f.tn)), .val (pK r 0), .val (pK r 0), .val (pK r 18), .val (.agg (c29 mi mn)), .val (vTr), .val (vTr), .val undef, .val undef, .val undef, .val undef, .val undef, .val undef] follows (by kernel_rfl) rfl ?hAx38 (ja ?o0x38 (ja ?o1x38 (ja ?o2x38 (ja ?o3x38 (ja ?o4x38 (ja ?o5x38 (ja ?o6x38 (ja ?o7x38 (ja ?o8x38 (ja ?o9x38 (ja ?o10x38 (ja ?o11x38 (ja ?o12x38 (ja ?o13x38 jw)))))))))))))) ?restx38
  case hAx38 =>
    intro ptrs
    simp only [full, foldSlots, filledE, postE, List.foldl_cons, List.foldl_nil, List.getD_cons_zero, List.getD_cons_succ, jr, List.set_cons_zero, List.set_cons_succ]
    exact rfl
  case o0x38 => exact fun _ _ hw _ => jb (v := pK g1 54) rfl (jd 46 _ 7 rfl _ _ rfl _)
  case o1x38 => exact fun _ _ hw _ => jb (v := .agg (c29 f.ti f.tn)) rfl (jf 29 _ rfl g1 54 2 rfl 46 _ (hw.has kg1) _ Try.underlying29 rfl si29 _)
  case o2x38 => exact fun _ _ _ _ => jg (v := pK r 0) _ rfl rfl rfl
  case o3x38 => exact fun _ _ hw _ => jb (v := pK r 0) rfl (jj _ rfl _ rfl)
  case o4x38 => exact fun _ _ hw _ => jb (v := pK r 18) rfl (jd 34 _ 3 rfl _ _ rfl _)
  case o5x38 => exact fun _ _ hw _ => jb (v := .agg (c29 mi mn)) rfl (jf 29 _ rfl r 18 2 rfl 34 _ (hw.has kr) _ Try.underlying29 rfl si29 _)
  case o6x38 => exact fun _ _ hw _ => jb (v := vTr) rfl (zq _ _ _ rfl f.ti f.tn mi mn rfl rfl true (by rw [ht]; rfl) _)
  case o7x38 => exact fun _ _ _ _ => jg (v := vTr) _ rfl rfl rfl
  case o8x38 => exact fun _ _ _ _ => jO rfl
  case o9x38 => exact fun _ _ _ _ => jO rfl
  case o10x38 => exact fun _ _ _ _ => jO rfl
  case o11x38 => exact fun _ _ _ _ => jO rfl
  case o12x38 => exact fun _ _ _ _ => jO rfl
  case o13x38 => exact fun _ _ _ _ => jO rfl
  intro ptrs w5 GD hxE
  simp only [List.drop_succ_cons, List.drop_zero]
  replace kr := GD.has kr
  replace kg1 := GD.has kg1
  replace kg2 := GD.has kg2
  replace kg3 := GD.has kg3
  replace kg4 := GD.has kg4
  replace GG := GG.drew.tg GD
  clear GD
  refine zf 130 rfl rfl (mv 131 (vTr) (wpList_nil (jc (wp_cond_true rfl (wp_seq (wp_region_lit (sv 132 (.agg (c62 false false Sl.nil false Sl.nil)) (jf 62 _ rfl g4 0 5 rfl 62 _ kg4 _ Try.underlying62 rfl si62 _) ?_)))))))
  refine nr ?_; intro U h; simp only [z0, z1] at h; subst h
  refine jn rfl rfl 62 _ _ rfl g3 0 rfl (.agg (c62 false false Sl.nil false Sl.nil)) rfl 62 _ kg3 (c62 false false Sl.nil false Sl.nil) rfl (by kernel_rfl) (nlB rfl) (by kernel_rfl) (c62 false false Sl.nil false Sl.nil) (by kernel_rfl) ?_
  intro w7 St
  replace kr := St.has (by omega) kr
  replace kg1 := St.has (by omega) kg1
  replace kg2 := St.has (by omega) kg2
  replace kg4 := St.has (by omega) kg4
  replace GG := GG.st St (.inl bg3)
  replace kg3 := St.new
  clear St
  refine wpList_nil (jc (wp_ret (jC (jV (jC ?_)))))
  refine bodyPost_ret (results_cell_row Try.results22 _ _ g3 62 _ (0, 0) _ rfl kg3 Try.underlying62 rfl (by kernel_rfl)) rfl ?_
  exact ⟨_, (r :: blk so), (txb u), rfl, TV.no _, ⟨B, so, sc, u, H.keep1 GG kr, hk, rfl, rfl, rfl⟩, GG.p1, Fresh.refl _ _, Fresh.refl _ _⟩
theorem rno_2_1 (w : World) (r B : Nat) (id : Nat → Nat) (op : Bool) (mi mn pi pn : Int) (oth : Nat → Nat) (so : Option Addr) (sc : Nat) (u : List RV) (k c : Nat) (H : WX 34 (c34 id true op mi mn pi pn oth ⟨so, u.length, sc⟩ ((k : Nat) : Int) ((c : Nat) : Int)) w r B so sc u) (hk : k ≤ u.length) (f : Fr) (ni nn : Int) (hf1 : ¬ f.kind = 1) (hf2 : f.kind = 2) (ht : (decide (f.ti = mi) && decide (f.tn = mn)) = true) (hp : (decide (f.fi = pi) && decide (f.fn = pn)) = false) : Calls Try.prog 22 #[pK r 0, .agg (frA f), .agg (c29 ni nn)] w (HearD w r id (r :: blk so) (txb u) (⟨true, op, mi, mn, pi, pn, oth, k, ((u.drop k).map (·.l)), c⟩, PT.no)) := by
  refine jp Try.func22 rfl Try.ntmps22 [pK r 0, .agg (frA f), .agg (c29 ni nn)] ?_
  intro U h; simp only [List.length_cons, List.length_nil, List.cons_append, List.nil_append, Nat.reduceAdd, Nat.reduceSub, List.reduceReplicate] at h; subst h
  have GG := GroS.refl [r] w
  have kr := H.box
  have hpl := H.lt
  have hBl := H.bl
  refine wp_seq (wp_region_lit ?_)
  refine jB 4 rfl rfl 46 _ rfl _ rfl (frA f) rfl ?_
  intro w1 g1 G eg1 kg1
  have bg1 := jl GG eg1
  have drg1 := je kr eg1
  replace kr := G.has kr
  replace GG := GG.tg G
  clear G eg1
  refine jB 5 rfl rfl 29 _ rfl _ rfl (c29 ni nn) rfl ?_
  intro w2 g2 G eg2 kg2
  have bg2 := jl GG eg2
  have drg2 := je kr eg2
  have dg1g2 := je kg1 eg2
  replace kr := G.has kr
  replace kg1 := G.has kg1
  replace GG := GG.tg G
  clear G eg2
  refine jq 6 rfl rfl 62 rfl _ zv62 _ rfl ?_
  intro w3 g3 G eg3 kg3
  have bg3 := jl GG eg3
  have drg3 := je kr eg3
  have dg1g3 := je kg1 eg3
  have dg2g3 := je kg2 eg3
  replace kr := G.has kr
  replace kg1 := G.has kg1
  replace kg2 := G.has kg2
  replace GG := GG.tg G
  clear G eg3
  refine wpList_nil (jc (wp_seq (wp_region_lit ?_)))
  refine jq 7 rfl rfl 62 rfl _ zv62 _ rfl ?_
  intro w4 g4 G eg4 kg4
  have bg4 := jl GG eg4
  have drg4 := je kr eg4
  have dg1g4 := je kg1 eg4
  have dg2g4 := je kg2 eg4
  have dg3g4 := je kg3 eg4
  replace kr := G.has kr
  replace kg1 := G.has kg1
  replace kg2 := G.has kg2
  replace kg3 := G.has kg3
  replace GG := GG.tg G
  clear G eg4
  refine wpList_nil (jc (wp_seq (wp_seq (wp_region_lit (mv 8 (pK r 0) (sv 9 (pK r 0) (jj _ rfl _ rfl) (sv 10 (pK r 16) (jd 34 _ 1 rfl _ _ rfl _) (sv 11 (vTr) (jh 4 _ rfl r 16 rfl 34 _ kr (na4 _) _ rfl) (sv 12 (vFa) (jE _ _ rfl true rfl) ?_)))))))))
  refine nr ?_; intro U h; simp only [z0, z1] at h; subst h
  refine wpList_nil (jc (wp_cond_false rfl (wp_skip (jc (wp_seq (wp_seq (wp_region_lit (sv 14 (pK g1 0) (jd 46 _ 0 rfl _ _ rfl _) (sv 15 (iK f.kind) (jh 3 _ rfl g1 0 rfl 46 _ kg1 (na3 _) _ rfl) (wpList_nil (jc (wp_block (wp_seq (wp_region_lit (sv 17 (vFa) (jo 3 .i64 _ _ _ rfl Try.underlying3 f.kind 1 rfl rfl false (decide_eq_false hf1) _) ?_)))))))))))))))
  refine mv 16 (vFa) (wpList_nil (jc (wp_cond_false rfl (wp_seq (wp_region_lit (sv 115 (vTr) (jo 3 .i64 _ _ _ rfl Try.underlying3 f.kind 2 rfl rfl true (decide_eq_true hf2) _) (mv 114 (vTr) (wpList_nil (jc (wp_cond_true rfl (wp_seq (wp_seq ?_))))))))))))
  refine jk (A := ?Ax39) 14 [(0, 116), (1, 117), (2, 118), (3, 119), (4, 120), (5, 121), (6, 122), (7, 123), (8, 124), (9, 125), (10, 126), (11, 127), (12, 128), (13, 129)] [.val (pK g1 54), .val (.agg (c29 f.ti f.tn)), .val (pK r 0), .val (pK r 0), .val (pK r 18), .val (.agg (c29 mi mn)), .val (vFa), .val (vFa), .val (pK g1 52), .val (.agg (c29 f.fi f.fn)), .val (pK r 0), .val (pK r 0), .val (pK r 20), .val (.agg (c29 pi pn))] follows (by kernel_rfl) rfl ?hAx39 (ja ?o0x39 (ja ?o1x39 (ja ?o2x39 (ja ?o3x39 (ja ?o4x39 (ja ?o5x39 (ja ?o6x39 (ja ?o7x39 (ja ?o8x39 (ja ?o9x39 (ja ?o10x39 (ja ?o11x39 (ja ?o12x39 (ja ?o13x39 jw)))))))))))))) ?restx39
  case hAx39 =>
    intro ptrs
    simp only [full, foldSlots, filledE, postE, List.foldl_cons, List.foldl_nil, List.getD_cons_zero, List.getD_cons_succ, jr, List.set_cons_zero, List.set_cons_succ]
    exact rfl
  case o0x39 => exact fun _ _ hw _ => jb (v := pK g1 54) rfl (jd 46 _ 7 rfl _ _ rfl _)
  case o1x39 => exact fun _ _ hw _ => jb (v := .agg (c29 f.ti f.tn)) rfl (jf 29 _ rfl g1 54 2 rfl 46 _ (hw.has kg1) _ Try.underlying29 rfl si29 _)
  case o2x39 => exact fun _ _ _ _ => jg (v := pK r 0) _ rfl rfl rfl
  case o3x39 => exact fun _ _ hw _ => jb (v := pK r 0) rfl (jj _ rfl _ rfl)
  case o4x39 => exact fun _ _ hw _ => jb (v := pK r 18) rfl (jd 34 _ 3 rfl _ _ rfl _)
  case o5x39 => exact fun _ _ hw _ => jb (v := .agg (c29 mi mn)) rfl (jf 29 _ rfl r 18 2 rfl 34 _ (hw.has kr) _ Try.underlying29 rfl si29 _)
  case o6x39 => exact fun _ _ hw _ => jb (v := vFa) rfl (zq _ _ _ rfl f.ti f.tn mi mn rfl rfl false (by rw [ht]; rfl) _)
  case o7x39 => exact fun _ _ _ _ => jg (v := vFa) _ rfl rfl rfl
  case o8x39 => exact fun _ _ hw _ => jb (v := pK g1 52) rfl (jd 46 _ 6 rfl _ _ rfl _)
  case o9x39 => exact fun _ _ hw _ => jb (v := .agg (c29 f.fi f.fn)) rfl (jf 29 _ rfl g1 52 2 rfl 46 _ (hw.has kg1) _ Try.underlying29 rfl si29 _)
  case o10x39 => exact fun _ _ _ _ => jg (v := pK r 0) _ rfl rfl rfl
  case o11x39 => exact fun _ _ hw _ => jb (v := pK r 0) rfl (jj _ rfl _ rfl)
  case o12x39 => exact fun _ _ hw _ => jb (v := pK r 20) rfl (jd 34 _ 4 rfl _ _ rfl _)
  case o13x39 => exact fun _ _ hw _ => jb (v := .agg (c29 pi pn)) rfl (jf 29 _ rfl r 20 2 rfl 34 _ (hw.has kr) _ Try.underlying29 rfl si29 _)
  intro ptrs w5 GD hxE
  simp only [List.drop_succ_cons, List.drop_zero]
  replace kr := GD.has kr
  replace kg1 := GD.has kg1
  replace kg2 := GD.has kg2
  replace kg3 := GD.has kg3
  replace kg4 := GD.has kg4
  replace GG := GG.drew.tg GD
  clear GD
  refine jI 130 rfl rfl (vTr) (zq _ _ _ rfl f.fi f.fn pi pn rfl rfl true (by rw [hp]; rfl) _) (mv 131 (vTr) (wpList_nil (jc (wp_cond_true rfl (wp_seq (wp_region_lit (sv 132 (.agg (c62 false false Sl.nil false Sl.nil)) (jf 62 _ rfl g4 0 5 rfl 62 _ kg4 _ Try.underlying62 rfl si62 _) ?_)))))))
  refine nr ?_; intro U h; simp only [z0, z1] at h; subst h
  refine jn rfl rfl 62 _ _ rfl g3 0 rfl (.agg (c62 false false Sl.nil false Sl.nil)) rfl 62 _ kg3 (c62 false false Sl.nil false Sl.nil) rfl (by kernel_rfl) (nlB rfl) (by kernel_rfl) (c62 false false Sl.nil false Sl.nil) (by kernel_rfl) ?_
  intro w7 St
  replace kr := St.has (by omega) kr
  replace kg1 := St.has (by omega) kg1
  replace kg2 := St.has (by omega) kg2
  replace kg4 := St.has (by omega) kg4
  replace GG := GG.st St (.inl bg3)
  replace kg3 := St.new
  clear St
  refine wpList_nil (jc (wp_ret (jC (jV (jC ?_)))))
  refine bodyPost_ret (results_cell_row Try.results22 _ _ g3 62 _ (0, 0) _ rfl kg3 Try.underlying62 rfl (by kernel_rfl)) rfl ?_
  exact ⟨_, (r :: blk so), (txb u), rfl, TV.no _, ⟨B, so, sc, u, H.keep1 GG kr, hk, rfl, rfl, rfl⟩, GG.p1, Fresh.refl _ _, Fresh.refl _ _⟩
theorem rno_3_0 (w : World) (r B : Nat) (id : Nat → Nat) (op : Bool) (mi mn pi pn : Int) (oth : Nat → Nat) (so : Option Addr) (sc : Nat) (u : List RV) (k c : Nat) (H : WX 34 (c34 id true op mi mn pi pn oth ⟨so, u.length, sc⟩ ((k : Nat) : Int) ((c : Nat) : Int)) w r B so sc u) (hk : k ≤ u.length) (f : Fr) (ni nn : Int) (hf1 : ¬ f.kind = 1) (hf2 : ¬ f.kind = 2) (hf3 : f.kind = 3) (ht : (decide (f.ti = mi) && decide (f.tn = mn)) = false) : Calls Try.prog 22 #[pK r 0, .agg (frA f), .agg (c29 ni nn)] w (HearD w r id (r :: blk so) (txb u) (⟨true, op, mi, mn, pi, pn, oth, k, ((u.drop k).map (·.l)), c⟩, PT.no)) := by
  refine jp Try.func22 rfl Try.ntmps22 [pK r 0, .agg (frA f), .agg (c29 ni nn)] ?_
  intro U h; simp only [List.length_cons, List.length_nil, List.cons_append, List.nil_append, Nat.reduceAdd, Nat.reduceSub, List.reduceReplicate] at h; subst h
  have GG := GroS.refl [r] w
  have kr := H.box
  have hpl := H.lt
  have hBl := H.bl
  refine wp_seq (wp_region_lit ?_)
  refine jB 4 rfl rfl 46 _ rfl _ rfl (frA f) rfl ?_
  intro w1 g1 G eg1 kg1
  have bg1 := jl GG eg1
  have drg1 := je kr eg1
  replace kr := G.has kr
  replace GG := GG.tg G
  clear G eg1
  refine jB 5 rfl rfl 29 _ rfl _ rfl (c29 ni nn) rfl ?_
  intro w2 g2 G eg2 kg2
  have bg2 := jl GG eg2
  have drg2 := je kr eg2
  have dg1g2 := je kg1 eg2
  replace kr := G.has kr
  replace kg1 := G.has kg1
  replace GG := GG.tg G
  clear G eg2
  refine jq 6 rfl rfl 62 rfl _ zv62 _ rfl ?_
  intro w3 g3 G eg3 kg3
  have bg3 := jl GG eg3
  have drg3 := je kr eg3
  have dg1g3 := je kg1 eg3
  have dg2g3 := je kg2 eg3
  replace kr := G.has kr
  replace kg1 := G.has kg1
  replace kg2 := G.has kg2
  replace GG := GG.tg G
  clear G eg3
  refine wpList_nil (jc (wp_seq (wp_region_lit ?_)))
  refine jq 7 rfl rfl 62 rfl _ zv62 _ rfl ?_
  intro w4 g4 G eg4 kg4
  have bg4 := jl GG eg4
  have drg4 := je kr eg4
  have dg1g4 := je kg1 eg4
  have dg2g4 := je kg2 eg4
  have dg3g4 := je kg3 eg4
  replace kr := G.has kr
  replace kg1 := G.has kg1
  replace kg2 := G.has kg2
  replace kg3 := G.has kg3
  replace GG := GG.tg G
  clear G eg4
  refine wpList_nil (jc (wp_seq (wp_seq (wp_region_lit (mv 8 (pK r 0) (sv 9 (pK r 0) (jj _ rfl _ rfl) (sv 10 (pK r 16) (jd 34 _ 1 rfl _ _ rfl _) (sv 11 (vTr) (jh 4 _ rfl r 16 rfl 34 _ kr (na4 _) _ rfl) (sv 12 (vFa) (jE _ _ rfl true rfl) ?_)))))))))
  refine nr ?_; intro U h; simp only [z0, z1] at h; subst h
  refine wpList_nil (jc (wp_cond_false rfl (wp_skip (jc (wp_seq (wp_seq (wp_region_lit (sv 14 (pK g1 0) (jd 46 _ 0 rfl _ _ rfl _) (sv 15 (iK f.kind) (jh 3 _ rfl g1 0 rfl 46 _ kg1 (na3 _) _ rfl) (wpList_nil (jc (wp_block (wp_seq (wp_region_lit (sv 17 (vFa) (jo 3 .i64 _ _ _ rfl Try.underlying3 f.kind 1 rfl rfl false (decide_eq_false hf1) _) ?_)))))))))))))))
  refine mv 16 (vFa) (wpList_nil (jc (wp_cond_false rfl (wp_seq (wp_region_lit (sv 115 (vFa) (jo 3 .i64 _ _ _ rfl Try.underlying3 f.kind 2 rfl rfl false (decide_eq_false hf2) _) (mv 114 (vFa) (wpList_nil (jc (wp_cond_false rfl (wp_seq (wp_region_lit (sv 171 (vTr) (jo 3 .i64 _ _ _ rfl Try.underlying3 f.kind 3 rfl rfl true (decide_eq_true hf3) _) (mv 170 (vTr) ?_))))))))))))))
  refine wpList_nil (jc (wp_cond_true rfl (wp_seq ?_)))
  refine jk (A := ?Ax40) 14 [(0, 172), (1, 173), (2, 174), (3, 175), (4, 176), (5, 177), (6, 178), (7, 179), (8, 180), (9, 181), (10, 182), (11, 183), (12, 184), (13, 185)] [.val (pK g1 54), .val (.agg (c29 f.ti f.tn)), .val (pK r 0), .val (pK r 0), .val (pK r 18), .val (.agg (c29 mi mn)), .val (vFa), .val (vFa), .val undef, .val undef, .val undef, .val undef, .val undef, .val undef] follows (by kernel_rfl) rfl ?hAx40 (ja ?o0x40 (ja ?o1x40 (ja ?o2x40 (ja ?o3x40 (ja ?o4x40 (ja ?o5x40 (ja ?o6x40 (ja ?o7x40 (ja ?o8x40 (ja ?o9x40 (ja ?o10x40 (ja ?o11x40 (ja ?o12x40 (ja ?o13x40 jw)))))))))))))) ?restx40
  case hAx40 =>
    intro ptrs
    simp only [full, foldSlots, filledE, postE, List.foldl_cons, List.foldl_nil, List.getD_cons_zero, List.getD_cons_succ, jr, List.set_cons_zero, List.set_cons_succ]
    exact rfl
  case o0x40 => exact fun _ _ hw _ => jb (v := pK g1 54) rfl (jd 46 _ 7 rfl _ _ rfl _)
  case o1x40 => exact fun _ _ hw _ => jb (v := .agg (c29 f.ti f.tn)) rfl (jf 29 _ rfl g1 54 2 rfl 46 _ (hw.has kg1) _ Try.underlying29 rfl si29 _)
  case o2x40 => exact fun _ _ _ _ => jg (v := pK r 0) _ rfl rfl rfl
  case o3x40 => exact fun _ _ hw _ => jb (v := pK r 0) rfl (jj _ rfl _ rfl)
  case o4x40 => exact fun _ _ hw _ => jb (v := pK r 18) rfl (jd 34 _ 3 rfl _ _ rfl _)
  case o5x40 => exact fun _ _ hw _ => jb (v := .agg (c29 mi mn)) rfl (jf 29 _ rfl r 18 2 rfl 34 _ (hw.has kr) _ Try.underlying29 rfl si29 _)
  case o6x40 => exact fun _ _ hw _ => jb (v := vFa) rfl (jH _ _ _ rfl f.ti f.tn mi mn rfl rfl false (ht) _)
  case o7x40 => exact fun _ _ _ _ => jg (v := vFa) _ rfl rfl rfl
  case o8x40 => exact fun _ _ _ _ => jO rfl
  case o9x40 => exact fun _ _ _ _ => jO rfl
  case o10x40 => exact fun _ _ _ _ => jO rfl
  case o11x40 => exact fun _ _ _ _ => jO rfl
  case o12x40 => exact fun _ _ _ _ => jO rfl
  case o13x40 => exact fun _ _ _ _ => jO rfl
  intro ptrs w5 GD hxE
  simp only [List.drop_succ_cons, List.drop_zero]
  replace kr := GD.has kr
  replace kg1 := GD.has kg1
  replace kg2 := GD.has kg2
  replace kg3 := GD.has kg3
  replace kg4 := GD.has kg4
  replace GG := GG.drew.tg GD
  clear GD
  refine zf 186 rfl rfl ?_
  refine nr ?_; intro U h; simp only [z0, z1] at h; subst h
  refine mv 187 (vFa) (wpList_nil (jc (wp_cond_false rfl (wp_skip (zh (jc (wp_seq (wp_region_lit (sv 203 (.agg (c62 false false Sl.nil false Sl.nil)) (jf 62 _ rfl g4 0 5 rfl 62 _ kg4 _ Try.underlying62 rfl si62 _) ?_)))))))))
  refine jn rfl rfl 62 _ _ rfl g3 0 rfl (.agg (c62 false false Sl.nil false Sl.nil)) rfl 62 _ kg3 (c62 false false Sl.nil false Sl.nil) rfl (by kernel_rfl) (nlB rfl) (by kernel_rfl) (c62 false false Sl.nil false Sl.nil) (by kernel_rfl) ?_
  intro w7 St
  replace kr := St.has (by omega) kr
  replace kg1 := St.has (by omega) kg1
  replace kg2 := St.has (by omega) kg2
  replace kg4 := St.has (by omega) kg4
  replace GG := GG.st St (.inl bg3)
  replace kg3 := St.new
  clear St
  refine wpList_nil (jc (wp_ret ?_))
  refine bodyPost_ret (results_cell_row Try.results22 _ _ g3 62 _ (0, 0) _ rfl kg3 Try.underlying62 rfl (by kernel_rfl)) rfl ?_
  exact ⟨_, (r :: blk so), (txb u), rfl, TV.no _, ⟨B, so, sc, u, H.keep1 GG kr, hk, rfl, rfl, rfl⟩, GG.p1, Fresh.refl _ _, Fresh.refl _ _⟩
theorem rno_3_1 (w : World) (r B : Nat) (id : Nat → Nat) (op : Bool) (mi mn pi pn : Int) (oth : Nat → Nat) (so : Option Addr) (sc : Nat) (u : List RV) (k c : Nat) (H : WX 34 (c34 id true op mi mn pi pn oth ⟨so, u.length, sc⟩ ((k : Nat) : Int) ((c : Nat) : Int)) w r B so sc u) (hk : k ≤ u.length) (f : Fr) (ni nn : Int) (hf1 : ¬ f.kind = 1) (hf2 : ¬ f.kind = 2) (hf3 : f.kind = 3) (ht : (decide (f.ti = mi) && decide (f.tn = mn)) = true) (hp : (decide (f.fi = pi) && decide (f.fn = pn)) = false) : Calls Try.prog 22 #[pK r 0, .agg (frA f), .agg (c29 ni nn)] w (HearD w r id (r :: blk so) (txb u) (⟨true, op, mi, mn, pi, pn, oth, k, ((u.drop k).map (·.l)), c⟩, PT.no)) := by
  refine jp Try.func22 rfl Try.ntmps22 [pK r 0, .agg (frA f), .agg (c29 ni nn)] ?_
  intro U h; simp only [List.length_cons, List.length_nil, List.cons_append, List.nil_append, Nat.reduceAdd, Nat.reduceSub, List.reduceReplicate] at h; subst h
  have GG := GroS.refl [r] w
  have kr := H.box
  have hpl := H.lt
  have hBl := H.bl
  refine wp_seq (wp_region_lit ?_)
  refine jB 4 rfl rfl 46 _ rfl _ rfl (frA f) rfl ?_
  intro w1 g1 G eg1 kg1
  have bg1 := jl GG eg1
  have drg1 := je kr eg1
  replace kr := G.has kr
  replace GG := GG.tg G
  clear G eg1
  refine jB 5 rfl rfl 29 _ rfl _ rfl (c29 ni nn) rfl ?_
  intro w2 g2 G eg2 kg2
  have bg2 := jl GG eg2
  have drg2 := je kr eg2
  have dg1g2 := je kg1 eg2
  replace kr := G.has kr
  replace kg1 := G.has kg1
  replace GG := GG.tg G
  clear G eg2
  refine jq 6 rfl rfl 62 rfl _ zv62 _ rfl ?_
  intro w3 g3 G eg3 kg3
  have bg3 := jl GG eg3
  have drg3 := je kr eg3
  have dg1g3 := je kg1 eg3
  have dg2g3 := je kg2 eg3
  replace kr := G.has kr
  replace kg1 := G.has kg1
  replace kg2 := G.has kg2
  replace GG := GG.tg G
  clear G eg3
  refine wpList_nil (jc (wp_seq (wp_region_lit ?_)))
  refine jq 7 rfl rfl 62 rfl _ zv62 _ rfl ?_
  intro w4 g4 G eg4 kg4
  have bg4 := jl GG eg4
  have drg4 := je kr eg4
  have dg1g4 := je kg1 eg4
  have dg2g4 := je kg2 eg4
  have dg3g4 := je kg3 eg4
  replace kr := G.has kr
  replace kg1 := G.has kg1
  replace kg2 := G.has kg2
  replace kg3 := G.has kg3
  replace GG := GG.tg G
  clear G eg4
  refine wpList_nil (jc (wp_seq (wp_seq (wp_region_lit (mv 8 (pK r 0) (sv 9 (pK r 0) (jj _ rfl _ rfl) (sv 10 (pK r 16) (jd 34 _ 1 rfl _ _ rfl _) (sv 11 (vTr) (jh 4 _ rfl r 16 rfl 34 _ kr (na4 _) _ rfl) (sv 12 (vFa) (jE _ _ rfl true rfl) ?_)))))))))
  refine nr ?_; intro U h; simp only [z0, z1] at h; subst h
  refine wpList_nil (jc (wp_cond_false rfl (wp_skip (jc (wp_seq (wp_seq (wp_region_lit (sv 14 (pK g1 0) (jd 46 _ 0 rfl _ _ rfl _) (sv 15 (iK f.kind) (jh 3 _ rfl g1 0 rfl 46 _ kg1 (na3 _) _ rfl) (wpList_nil (jc (wp_block (wp_seq (wp_region_lit (sv 17 (vFa) (jo 3 .i64 _ _ _ rfl Try.underlying3 f.kind 1 rfl rfl false (decide_eq_false hf1) _) ?_)))))))))))))))
  refine mv 16 (vFa) (wpList_nil (jc (wp_cond_false rfl (wp_seq (wp_region_lit (sv 115 (vFa) (jo 3 .i64 _ _ _ rfl Try.underlying3 f.kind 2 rfl rfl false (decide_eq_false hf2) _) (mv 114 (vFa) (wpList_nil (jc (wp_cond_false rfl (wp_seq (wp_region_lit (sv 171 (vTr) (jo 3 .i64 _ _ _ rfl Try.underlying3 f.kind 3 rfl rfl true (decide_eq_true hf3) _) (mv 170 (vTr) ?_))))))))))))))
  refine wpList_nil (jc (wp_cond_true rfl (wp_seq ?_)))
  refine jk (A := ?Ax41) 14 [(0, 172), (1, 173), (2, 174), (3, 175), (4, 176), (5, 177), (6, 178), (7, 179), (8, 180), (9, 181), (10, 182), (11, 183), (12, 184), (13, 185)] [.val (pK g1 54), .val (.agg (c29 f.ti f.tn)), .val (pK r 0), .val (pK r 0), .val (pK r 18), .val (.agg (c29 mi mn)), .val (vTr), .val (vTr), .val (pK g1 52), .val (.agg (c29 f.fi f.fn)), .val (pK r 0), .val (pK r 0), .val (pK r 20), .val (.agg (c29 pi pn))] follows (by kernel_rfl) rfl ?hAx41 (ja ?o0x41 (ja ?o1x41 (ja ?o2x41 (ja ?o3x41 (ja ?o4x41 (ja ?o5x41 (ja ?o6x41 (ja ?o7x41 (ja ?o8x41 (ja ?o9x41 (ja ?o10x41 (ja ?o11x41 (ja ?o12x41 (ja ?o13x41 jw)))))))))))))) ?restx41
  case hAx41 =>
    intro ptrs
    simp only [full, foldSlots, filledE, postE, List.foldl_cons, List.foldl_nil, List.getD_cons_zero, List.getD_cons_succ, jr, List.set_cons_zero, List.set_cons_succ]
    exact rfl
  case o0x41 => exact fun _ _ hw _ => jb (v := pK g1 54) rfl (jd 46 _ 7 rfl _ _ rfl _)
  case o1x41 => exact fun _ _ hw _ => jb (v := .agg (c29 f.ti f.tn)) rfl (jf 29 _ rfl g1 54 2 rfl 46 _ (hw.has kg1) _ Try.underlying29 rfl si29 _)
  case o2x41 => exact fun _ _ _ _ => jg (v := pK r 0) _ rfl rfl rfl
  case o3x41 => exact fun _ _ hw _ => jb (v := pK r 0) rfl (jj _ rfl _ rfl)
  case o4x41 => exact fun _ _ hw _ => jb (v := pK r 18) rfl (jd 34 _ 3 rfl _ _ rfl _)
  case o5x41 => exact fun _ _ hw _ => jb (v := .agg (c29 mi mn)) rfl (jf 29 _ rfl r 18 2 rfl 34 _ (hw.has kr) _ Try.underlying29 rfl si29 _)
  case o6x41 => exact fun _ _ hw _ => jb (v := vTr) rfl (jH _ _ _ rfl f.ti f.tn mi mn rfl rfl true (ht) _)
  case o7x41 => exact fun _ _ _ _ => jg (v := vTr) _ rfl rfl rfl
  case o8x41 => exact fun _ _ hw _ => jb (v := pK g1 52) rfl (jd 46 _ 6 rfl _ _ rfl _)
  case o9x41 => exact fun _ _ hw _ => jb (v := .agg (c29 f.fi f.fn)) rfl (jf 29 _ rfl g1 52 2 rfl 46 _ (hw.has kg1) _ Try.underlying29 rfl si29 _)
  case o10x41 => exact fun _ _ _ _ => jg (v := pK r 0) _ rfl rfl rfl
  case o11x41 => exact fun _ _ hw _ => jb (v := pK r 0) rfl (jj _ rfl _ rfl)
  case o12x41 => exact fun _ _ hw _ => jb (v := pK r 20) rfl (jd 34 _ 4 rfl _ _ rfl _)
  case o13x41 => exact fun _ _ hw _ => jb (v := .agg (c29 pi pn)) rfl (jf 29 _ rfl r 20 2 rfl 34 _ (hw.has kr) _ Try.underlying29 rfl si29 _)
  intro ptrs w5 GD hxE
  simp only [List.drop_succ_cons, List.drop_zero]
  replace kr := GD.has kr
  replace kg1 := GD.has kg1
  replace kg2 := GD.has kg2
  replace kg3 := GD.has kg3
  replace kg4 := GD.has kg4
  replace GG := GG.drew.tg GD
  clear GD
  refine jI 186 rfl rfl (vFa) (jH _ _ _ rfl f.fi f.fn pi pn rfl rfl false (hp) _) ?_
  refine nr ?_; intro U h; simp only [z0, z1] at h; subst h
  refine mv 187 (vFa) (wpList_nil (jc (wp_cond_false rfl (wp_skip (zh (jc (wp_seq (wp_region_lit (sv 203 (.agg (c62 false false Sl.nil false Sl.nil)) (jf 62 _ rfl g4 0 5 rfl 62 _ kg4 _ Try.underlying62 rfl si62 _) ?_)))))))))
  refine jn rfl rfl 62 _ _ rfl g3 0 rfl (.agg (c62 false false Sl.nil false Sl.nil)) rfl 62 _ kg3 (c62 false false Sl.nil false Sl.nil) rfl (by kernel_rfl) (nlB rfl) (by kernel_rfl) (c62 false false Sl.nil false Sl.nil) (by kernel_rfl) ?_
  intro w7 St
  replace kr := St.has (by omega) kr
  replace kg1 := St.has (by omega) kg1
  replace kg2 := St.has (by omega) kg2
  replace kg4 := St.has (by omega) kg4
  replace GG := GG.st St (.inl bg3)
  replace kg3 := St.new
  clear St
  refine wpList_nil (jc (wp_ret ?_))
  refine bodyPost_ret (results_cell_row Try.results22 _ _ g3 62 _ (0, 0) _ rfl kg3 Try.underlying62 rfl (by kernel_rfl)) rfl ?_
  exact ⟨_, (r :: blk so), (txb u), rfl, TV.no _, ⟨B, so, sc, u, H.keep1 GG kr, hk, rfl, rfl, rfl⟩, GG.p1, Fresh.refl _ _, Fresh.refl _ _⟩
theorem JH (w : World) (r B : Nat) (id : Nat → Nat) (op : Bool) (mi mn pi pn : Int) (oth : Nat → Nat) (so : Option Addr) (sc : Nat) (u : List RV) (k c : Nat) (H : WX 34 (c34 id true op mi mn pi pn oth ⟨so, u.length, sc⟩ ((k : Nat) : Int) ((c : Nat) : Int)) w r B so sc u) (hk : k ≤ u.length) (hu : u.length ≤ 100000) (hc : c ≤ 100000) (f : Fr) (d : FD) (ni nn : Int) (HF : FrW w f d) (hne : ∀ ad, f.tx.ao = some ad → 0 < d.tx.length → ad.block ∉ [r]) (hl : d.tx.length ≤ 140737488355000) (hf1 : ¬ f.kind = 1) (hf2 : f.kind = 2) (ht : (decide (f.ti = mi) && decide (f.tn = mn)) = true) (hp : (decide (f.fi = pi) && decide (f.fn = pn)) = true) (hn : f.n = ((c : Nat) : Int) + 1) : Calls Try.prog 22 #[pK r 0, .agg (frA f), .agg (c29 ni nn)] w (HearD w r id (r :: blk so) (txb u) (⟨true, true, mi, mn, pi, pn, oth, k, ((u.drop k).map (·.l)), (c + 1)⟩, ⟨false, (!op), d.tx, true, [⟨3, zF, mi, mn, pi, pn, ((c + 1 : Nat) : Int), []⟩]⟩)) := by
  refine jp Try.func22 rfl Try.ntmps22 [pK r 0, .agg (frA f), .agg (c29 ni nn)] ?_
  intro U h; simp only [List.length_cons, List.length_nil, List.cons_append, List.nil_append, Nat.reduceAdd, Nat.reduceSub, List.reduceReplicate] at h; subst h
  have GG := GroS.refl [r] w
  have kr := H.box
  have hpl := H.lt
  have hBl := H.bl
  refine wp_seq (wp_region_lit ?_)
  refine jB 4 rfl rfl 46 _ rfl _ rfl (frA f) rfl ?_
  intro w1 g1 G eg1 kg1
  have bg1 := jl GG eg1
  have drg1 := je kr eg1
  replace kr := G.has kr
  replace GG := GG.tg G
  clear G eg1
  refine jB 5 rfl rfl 29 _ rfl _ rfl (c29 ni nn) rfl ?_
  intro w2 g2 G eg2 kg2
  have bg2 := jl GG eg2
  have drg2 := je kr eg2
  have dg1g2 := je kg1 eg2
  replace kr := G.has kr
  replace kg1 := G.has kg1
  replace GG := GG.tg G
  clear G eg2
  refine jq 6 rfl rfl 62 rfl _ zv62 _ rfl ?_
  intro w3 g3 G eg3 kg3
  have bg3 := jl GG eg3
  have drg3 := je kr eg3
  have dg1g3 := je kg1 eg3
  have dg2g3 := je kg2 eg3
  replace kr := G.has kr
  replace kg1 := G.has kg1
  replace kg2 := G.has kg2
  replace GG := GG.tg G
  clear G eg3
  refine wpList_nil (jc (wp_seq (wp_region_lit ?_)))
  refine jq 7 rfl rfl 62 rfl _ zv62 _ rfl ?_
  intro w4 g4 G eg4 kg4
  have bg4 := jl GG eg4
  have drg4 := je kr eg4
  have dg1g4 := je kg1 eg4
  have dg2g4 := je kg2 eg4
  have dg3g4 := je kg3 eg4
  replace kr := G.has kr
  replace kg1 := G.has kg1
  replace kg2 := G.has kg2
  replace kg3 := G.has kg3
  replace GG := GG.tg G
  clear G eg4
  refine wpList_nil (jc (wp_seq (wp_seq (wp_region_lit (mv 8 (pK r 0) (sv 9 (pK r 0) (jj _ rfl _ rfl) (sv 10 (pK r 16) (jd 34 _ 1 rfl _ _ rfl _) (sv 11 (vTr) (jh 4 _ rfl r 16 rfl 34 _ kr (na4 _) _ rfl) (sv 12 (vFa) (jE _ _ rfl true rfl) ?_)))))))))
  refine nr ?_; intro U h; simp only [z0, z1] at h; subst h
  refine wpList_nil (jc (wp_cond_false rfl (wp_skip (jc (wp_seq (wp_seq (wp_region_lit (sv 14 (pK g1 0) (jd 46 _ 0 rfl _ _ rfl _) (sv 15 (iK f.kind) (jh 3 _ rfl g1 0 rfl 46 _ kg1 (na3 _) _ rfl) (wpList_nil (jc (wp_block (wp_seq (wp_region_lit (sv 17 (vFa) (jo 3 .i64 _ _ _ rfl Try.underlying3 f.kind 1 rfl rfl false (decide_eq_false hf1) _) ?_)))))))))))))))
  refine mv 16 (vFa) (wpList_nil (jc (wp_cond_false rfl (wp_seq (wp_region_lit (sv 115 (vTr) (jo 3 .i64 _ _ _ rfl Try.underlying3 f.kind 2 rfl rfl true (decide_eq_true hf2) _) (mv 114 (vTr) (wpList_nil (jc (wp_cond_true rfl (wp_seq (wp_seq ?_))))))))))))
  refine jk (A := ?Ax42) 14 [(0, 116), (1, 117), (2, 118), (3, 119), (4, 120), (5, 121), (6, 122), (7, 123), (8, 124), (9, 125), (10, 126), (11, 127), (12, 128), (13, 129)] [.val (pK g1 54), .val (.agg (c29 f.ti f.tn)), .val (pK r 0), .val (pK r 0), .val (pK r 18), .val (.agg (c29 mi mn)), .val (vFa), .val (vFa), .val (pK g1 52), .val (.agg (c29 f.fi f.fn)), .val (pK r 0), .val (pK r 0), .val (pK r 20), .val (.agg (c29 pi pn))] follows (by kernel_rfl) rfl ?hAx42 (ja ?o0x42 (ja ?o1x42 (ja ?o2x42 (ja ?o3x42 (ja ?o4x42 (ja ?o5x42 (ja ?o6x42 (ja ?o7x42 (ja ?o8x42 (ja ?o9x42 (ja ?o10x42 (ja ?o11x42 (ja ?o12x42 (ja ?o13x42 jw)))))))))))))) ?restx42
  case hAx42 =>
    intro ptrs
    simp only [full, foldSlots, filledE, postE, List.foldl_cons, List.foldl_nil, List.getD_cons_zero, List.getD_cons_succ, jr, List.set_cons_zero, List.set_cons_succ]
    exact rfl
  case o0x42 => exact fun _ _ hw _ => jb (v := pK g1 54) rfl (jd 46 _ 7 rfl _ _ rfl _)
  case o1x42 => exact fun _ _ hw _ => jb (v := .agg (c29 f.ti f.tn)) rfl (jf 29 _ rfl g1 54 2 rfl 46 _ (hw.has kg1) _ Try.underlying29 rfl si29 _)
  case o2x42 => exact fun _ _ _ _ => jg (v := pK r 0) _ rfl rfl rfl
  case o3x42 => exact fun _ _ hw _ => jb (v := pK r 0) rfl (jj _ rfl _ rfl)
  case o4x42 => exact fun _ _ hw _ => jb (v := pK r 18) rfl (jd 34 _ 3 rfl _ _ rfl _)
  case o5x42 => exact fun _ _ hw _ => jb (v := .agg (c29 mi mn)) rfl (jf 29 _ rfl r 18 2 rfl 34 _ (hw.has kr) _ Try.underlying29 rfl si29 _)
  case o6x42 => exact fun _ _ hw _ => jb (v := vFa) rfl (zq _ _ _ rfl f.ti f.tn mi mn rfl rfl false (by rw [ht]; rfl) _)
  case o7x42 => exact fun _ _ _ _ => jg (v := vFa) _ rfl rfl rfl
  case o8x42 => exact fun _ _ hw _ => jb (v := pK g1 52) rfl (jd 46 _ 6 rfl _ _ rfl _)
  case o9x42 => exact fun _ _ hw _ => jb (v := .agg (c29 f.fi f.fn)) rfl (jf 29 _ rfl g1 52 2 rfl 46 _ (hw.has kg1) _ Try.underlying29 rfl si29 _)
  case o10x42 => exact fun _ _ _ _ => jg (v := pK r 0) _ rfl rfl rfl
  case o11x42 => exact fun _ _ hw _ => jb (v := pK r 0) rfl (jj _ rfl _ rfl)
  case o12x42 => exact fun _ _ hw _ => jb (v := pK r 20) rfl (jd 34 _ 4 rfl _ _ rfl _)
  case o13x42 => exact fun _ _ hw _ => jb (v := .agg (c29 pi pn)) rfl (jf 29 _ rfl r 20 2 rfl 34 _ (hw.has kr) _ Try.underlying29 rfl si29 _)
  intro ptrs w5 GD hxE
  simp only [List.drop_succ_cons, List.drop_zero]
  replace kr := GD.has kr
  replace kg1 := GD.has kg1
  replace kg2 := GD.has kg2
  replace kg3 := GD.has kg3
  replace kg4 := GD.has kg4
  replace GG := GG.drew.tg GD
  clear GD
  refine jI 130 rfl rfl (vFa) (zq _ _ _ rfl f.fi f.fn pi pn rfl rfl false (by rw [hp]; rfl) _) (mv 131 (vFa) (wpList_nil (jc (wp_cond_false rfl (wp_skip (jc (wp_seq (wp_region_lit (mv 133 (pK r 0) ?_)))))))))
  refine nr ?_; intro U h; simp only [z0, z1] at h; subst h
  refine sv 134 (pK r 0) (jj _ rfl _ rfl) (sv 135 (pK r 17) (jd 34 _ 2 rfl _ _ rfl _) (sv 136 (.bool op) (jh 4 _ rfl r 17 rfl 34 _ kr (na4 _) _ rfl) (sv 137 (.bool (!op)) (jE _ _ rfl op rfl) (sv 138 (pK g4 1) (jd 62 _ 1 rfl _ _ rfl _) ?_))))
  refine jn rfl rfl 4 _ _ rfl g4 1 rfl (.bool (!op)) rfl 62 _ kg4 #[.bool (!op)] rfl (by kernel_rfl) (nlB rfl) (by kernel_rfl) (c62 false (!op) Sl.nil false Sl.nil) (by kernel_rfl) ?_
  intro w7 St
  replace kr := St.has (by omega) kr
  replace kg1 := St.has (by omega) kg1
  replace kg2 := St.has (by omega) kg2
  replace kg3 := St.has (by omega) kg3
  replace GG := GG.st St (.inl bg4)
  replace kg4 := St.new
  clear St
  refine wpList_nil (jc (wp_seq (wp_region_lit (mv 139 (pK r 0) (sv 140 (pK r 0) (jj _ rfl _ rfl) (sv 141 (pK r 17) (jd 34 _ 2 rfl _ _ rfl _) ?_))))))
  refine jn rfl rfl 4 _ _ rfl r 17 rfl (vTr) rfl 34 _ kr #[vTr] rfl (by kernel_rfl) (nlB rfl) (by kernel_rfl) (c34 id true true mi mn pi pn oth ⟨so, u.length, sc⟩ ((k : Nat) : Int) ((c : Nat) : Int)) (by kernel_rfl) ?_
  intro w9 St
  replace kg1 := St.has (by omega) kg1
  replace kg2 := St.has (by omega) kg2
  replace kg3 := St.has (by omega) kg3
  replace kg4 := St.has (by omega) kg4
  replace GG := GG.st St (.inr (by simp))
  replace kr := St.new
  clear St
  refine wpList_nil (jc (wp_seq (wp_seq ?_)))
  refine jk (A := ?Ax43) 5 [(0, 142), (1, 143), (2, 144), (3, 145), (4, 146)] [.val (pK r 0), .val (pK r 0), .val (pK r 38), .val (pK g1 51), .val (iK f.n)] follows (by kernel_rfl) rfl ?hAx43 (ja ?o0x43 (ja ?o1x43 (ja ?o2x43 (ja ?o3x43 (ja ?o4x43 jw))))) ?restx43
  case hAx43 =>
    intro ptrs
    simp only [full, foldSlots, filledE, postE, List.foldl_cons, List.foldl_nil, List.getD_cons_zero, List.getD_cons_succ, jr, List.set_cons_zero, List.set_cons_succ]
    exact rfl
  case o0x43 => exact fun _ _ _ _ => jg (v := pK r 0) _ rfl rfl rfl
  case o1x43 => exact fun _ _ hw _ => jb (v := pK r 0) rfl (jj _ rfl _ rfl)
  case o2x43 => exact fun _ _ hw _ => jb (v := pK r 38) rfl (jd 34 _ 6 rfl _ _ rfl _)
  case o3x43 => exact fun _ _ hw _ => jb (v := pK g1 51) rfl (jd 46 _ 5 rfl _ _ rfl _)
  case o4x43 => exact fun _ _ hw _ => jb (v := iK f.n) rfl (jh 2 _ rfl g1 51 rfl 46 _ (hw.has kg1) (na2 _) _ rfl)
  intro ptrs w10 GD hxE
  simp only [List.drop_succ_cons, List.drop_zero]
  replace kr := GD.has kr
  replace kg1 := GD.has kg1
  replace kg2 := GD.has kg2
  replace kg3 := GD.has kg3
  replace kg4 := GD.has kg4
  replace GG := GG.drew.tg GD
  clear GD
  refine jD 147 rfl rfl _ 47 Try.call47 rfl rfl _ rfl [pK r 38, iK f.n] rfl (Yd _ r B id true true mi mn pi pn oth so sc u k c (H.keep1 GG kr) hk hu hc f.n hn) (fun _ _ ⟨he, _⟩ => ⟨_, he⟩) ?_
  rintro v w11 ⟨he, G, HX⟩
  cases he
  replace kg1 := G.has kg1 (by simp; omega)
  replace kg2 := G.has kg2 (by simp; omega)
  replace kg3 := G.has kg3 (by simp; omega)
  replace kg4 := G.has kg4 (by simp; omega)
  replace GG := GG.trans G
  clear kr G
  have kr := HX.box
  clear HX
  refine nr ?_; intro U h; simp only [z0, z1] at h; subst h
  refine wpList_nil (jc (wp_cond_true rfl (wp_region_lit ?_)))
  refine zk 148 rfl rfl 36 0 _ rfl [] rfl #[] 5 (by kernel_rfl) ?_
  intro w12 gb G egb kgb
  clear egb
  replace kr := G.has kr
  replace kg1 := G.has kg1
  replace kg2 := G.has kg2
  replace kg3 := G.has kg3
  replace kg4 := G.has kg4
  replace GG := GG.tg G
  clear G
  refine sv 149 (pK g1 94) (jd 46 _ 13 rfl _ _ rfl _) (sv 150 (.slice f.tx.ao f.tx.n f.tx.cap) (jh 36 _ rfl g1 94 rfl 46 _ kg1 (na36 _) _ rfl) ?_)
  refine nr ?_; intro U h; simp only [z0, z1] at h; subst h
  refine ZX 151 rfl rfl _ _ rfl 0 gb rfl kgb (Nat.zero_le _) (Nat.zero_le _) (l := d.tx) (ao := f.tx.ao) (cap := f.tx.cap) (by exact congrArg (fun n => Value.slice f.tx.ao n f.tx.cap) (jX HF.tx)) (GG.nc (vU HF.tx HF.otx) hne) hl ?_
  intro ao2 cap2 w13 G OC
  clear kgb
  replace kr := G.has kr
  replace kg1 := G.has kg1
  replace kg2 := G.has kg2
  replace kg3 := G.has kg3
  replace kg4 := G.has kg4
  replace GG := GG.tg G
  clear G
  refine sv 152 (pK g4 2) (jd 62 _ 2 rfl _ _ rfl _) ?_
  refine jn rfl rfl 36 _ _ rfl g4 2 rfl (.slice ao2 d.tx.length cap2) rfl 62 _ kg4 #[.slice ao2 d.tx.length cap2] rfl (by kernel_rfl) (nlB rfl) (by kernel_rfl) (c62 false (!op) ⟨ao2, d.tx.length, cap2⟩ false Sl.nil) (by kernel_rfl) ?_
  intro w15 St
  replace kr := St.has (by omega) kr
  replace kg1 := St.has (by omega) kg1
  replace kg2 := St.has (by omega) kg2
  replace kg3 := St.has (by omega) kg3
  replace OC := OC.no5 ((GroS.refl [g4] _).st St (.inr (by simp))) (jG kg4 (by decide))
  replace GG := GG.st St (.inl bg4)
  replace kg4 := St.new
  clear St
  refine sv 153 (pK g4 3) (jd 62 _ 3 rfl _ _ rfl _) ?_
  refine jn rfl rfl 4 _ _ rfl g4 3 rfl (vTr) rfl 62 _ kg4 #[vTr] rfl (by kernel_rfl) (nlB rfl) (by kernel_rfl) (c62 false (!op) ⟨ao2, d.tx.length, cap2⟩ true Sl.nil) (by kernel_rfl) ?_
  intro w17 St
  replace kr := St.has (by omega) kr
  replace kg1 := St.has (by omega) kg1
  replace kg2 := St.has (by omega) kg2
  replace kg3 := St.has (by omega) kg3
  replace OC := OC.no5 ((GroS.refl [g4] _).st St (.inr (by simp))) (jG kg4 (by decide))
  replace GG := GG.st St (.inl bg4)
  replace kg4 := St.new
  clear St
  refine wpList_nil (jc ?_)
  refine jk (A := ?Ax44) 13 [(0, 154), (1, 155), (2, 156), (3, 157), (4, 158), (5, 159), (6, 160), (7, 161), (8, 162), (9, 163), (10, 164), (11, 165), (12, 166)] [.val (pK r 0), .val (pK r 0), .val (pK r 18), .val (.agg (c29 mi mn)), .val (pK r 0), .val (pK r 0), .val (pK r 20), .val (.agg (c29 pi pn)), .val (pK r 0), .val (pK r 0), .val (pK r 38), .val (pK r 40), .val (iK ((c + 1 : Nat) : Int))] follows (by kernel_rfl) rfl ?hAx44 (ja ?o0x44 (ja ?o1x44 (ja ?o2x44 (ja ?o3x44 (ja ?o4x44 (ja ?o5x44 (ja ?o6x44 (ja ?o7x44 (ja ?o8x44 (ja ?o9x44 (ja ?o10x44 (ja ?o11x44 (ja ?o12x44 jw))))))))))))) ?restx44
  case hAx44 =>
    intro ptrs
    simp only [full, foldSlots, filledE, postE, List.foldl_cons, List.foldl_nil, List.getD_cons_zero, List.getD_cons_succ, jr, List.set_cons_zero, List.set_cons_succ]
    exact rfl
  case o0x44 => exact fun _ _ _ _ => jg (v := pK r 0) _ rfl rfl rfl
  case o1x44 => exact fun _ _ hw _ => jb (v := pK r 0) rfl (jj _ rfl _ rfl)
  case o2x44 => exact fun _ _ hw _ => jb (v := pK r 18) rfl (jd 34 _ 3 rfl _ _ rfl _)
  case o3x44 => exact fun _ _ hw _ => jb (v := .agg (c29 mi mn)) rfl (jf 29 _ rfl r 18 2 rfl 34 _ (hw.has kr) _ Try.underlying29 rfl si29 _)
  case o4x44 => exact fun _ _ _ _ => jg (v := pK r 0) _ rfl rfl rfl
  case o5x44 => exact fun _ _ hw _ => jb (v := pK r 0) rfl (jj _ rfl _ rfl)
  case o6x44 => exact fun _ _ hw _ => jb (v := pK r 20) rfl (jd 34 _ 4 rfl _ _ rfl _)
  case o7x44 => exact fun _ _ hw _ => jb (v := .agg (c29 pi pn)) rfl (jf 29 _ rfl r 20 2 rfl 34 _ (hw.has kr) _ Try.underlying29 rfl si29 _)
  case o8x44 => exact fun _ _ _ _ => jg (v := pK r 0) _ rfl rfl rfl
  case o9x44 => exact fun _ _ hw _ => jb (v := pK r 0) rfl (jj _ rfl _ rfl)
  case o10x44 => exact fun _ _ hw _ => jb (v := pK r 38) rfl (jd 34 _ 6 rfl _ _ rfl _)
  case o11x44 => exact fun _ _ hw _ => jb (v := pK r 40) rfl (jd 32 _ 2 rfl _ _ rfl _)
  case o12x44 => exact fun _ _ hw _ => jb (v := iK ((c + 1 : Nat) : Int)) rfl (jh 2 _ rfl r 40 rfl 34 _ (hw.has kr) (na2 _) _ rfl)
  intro ptrs w18 GD hxE
  simp only [List.drop_succ_cons, List.drop_zero]
  replace kr := GD.has kr
  replace kg1 := GD.has kg1
  replace kg2 := GD.has kg2
  replace kg3 := GD.has kg3
  replace kg4 := GD.has kg4
  replace OC := OC.gro ((Gro.refl _).drew.trans GD)
  replace GG := GG.drew.tg GD
  clear GD
  refine sv 167 (.agg (c46 3 zF 0 false zF zF ((c + 1 : Nat) : Int) mi mn pi pn Sl.nil Sl.nil zF 0 zF Sl.nil 0 0 Sl.nil)) (jy 46 _ rfl [(0, iK 3), (6, .agg (c29 mi mn)), (7, .agg (c29 pi pn)), (5, iK ((c + 1 : Nat) : Int))] rfl _ (by kernel_rfl)) ?_
  refine zk 168 rfl rfl 50 1 _ rfl [(0, .agg (c46 3 zF 0 false zF zF ((c + 1 : Nat) : Int) mi mn pi pn Sl.nil Sl.nil zF 0 zF Sl.nil 0 0 Sl.nil))] rfl (c46 3 zF 0 false zF zF ((c + 1 : Nat) : Int) mi mn pi pn Sl.nil Sl.nil zF 0 zF Sl.nil 0 0 Sl.nil) 46 (by kernel_rfl) ?_
  intro w19 g5 G eg5 kg5
  have bg5 := jl GG eg5
  have drg5 := je kr eg5
  have dg1g5 := je kg1 eg5
  have dg2g5 := je kg2 eg5
  have dg3g5 := je kg3 eg5
  have dg4g5 := je kg4 eg5
  replace kr := G.has kr
  replace kg1 := G.has kg1
  replace kg2 := G.has kg2
  replace kg3 := G.has kg3
  replace kg4 := G.has kg4
  replace OC := OC.gro G
  replace GG := GG.tg G
  clear G eg5
  refine sv 169 (pK g4 4) (jd 62 _ 4 rfl _ _ rfl _) ?_
  refine jn rfl rfl 50 _ _ rfl g4 4 rfl (.slice (some ⟨g5, 0, none⟩) 1 1) rfl 62 _ kg4 #[.slice (some ⟨g5, 0, none⟩) 1 1] rfl (by kernel_rfl) (nlB rfl) (by kernel_rfl) (c62 false (!op) ⟨ao2, d.tx.length, cap2⟩ true ⟨some ⟨g5, 0, none⟩, 1, 1⟩) (by kernel_rfl) ?_
  intro w21 St
  replace kr := St.has (by omega) kr
  replace kg1 := St.has (by omega) kg1
  replace kg2 := St.has (by omega) kg2
  replace kg3 := St.has (by omega) kg3
  replace kg5 := St.has (by omega) kg5
  replace OC := OC.no5 ((GroS.refl [g4] _).st St (.inr (by simp))) (jG kg4 (by decide))
  replace GG := GG.st St (.inl bg4)
  replace kg4 := St.new
  clear St
  refine wpList_nil (zh (jc (wp_seq (wp_region_lit (sv 203 (.agg (c62 false (!op) ⟨ao2, d.tx.length, cap2⟩ true ⟨some ⟨g5, 0, none⟩, 1, 1⟩)) (jf 62 _ rfl g4 0 5 rfl 62 _ kg4 _ Try.underlying62 rfl si62 _) ?_)))))
  refine jn rfl rfl 62 _ _ rfl g3 0 rfl (.agg (c62 false (!op) ⟨ao2, d.tx.length, cap2⟩ true ⟨some ⟨g5, 0, none⟩, 1, 1⟩)) rfl 62 _ kg3 (c62 false (!op) ⟨ao2, d.tx.length, cap2⟩ true ⟨some ⟨g5, 0, none⟩, 1, 1⟩) rfl (by kernel_rfl) (nlB rfl) (by kernel_rfl) (c62 false (!op) ⟨ao2, d.tx.length, cap2⟩ true ⟨some ⟨g5, 0, none⟩, 1, 1⟩) (by kernel_rfl) ?_
  intro w23 St
  replace kr := St.has (by omega) kr
  replace kg1 := St.has (by omega) kg1
  replace kg2 := St.has (by omega) kg2
  replace kg4 := St.has (by omega) kg4
  replace kg5 := St.has (by omega) kg5
  replace OC := OC.no5 ((GroS.refl [g3] _).st St (.inr (by simp))) (jG kg3 (by decide))
  replace GG := GG.st St (.inl bg3)
  replace kg3 := St.new
  clear St
  refine wpList_nil (jc (wp_ret ?_))
  refine bodyPost_ret (results_cell_row Try.results22 _ _ g3 62 _ (0, 0) _ rfl kg3 Try.underlying62 rfl (by kernel_rfl)) rfl ?_
  exact ⟨_, (r :: blk so), (txb u), rfl, ⟨ao2, cap2, _, _, [(_, _)], rfl, OC, rfl, LF.one (f := pfr ⟨3, zF, mi, mn, pi, pn, ((c + 1 : Nat) : Int), []⟩ Sl.nil Sl.nil Sl.nil Sl.nil) kg5 (Nat.zero_le _) (zQ _ _ _ _ _ _ _ _)⟩, ⟨B, so, sc, u, H.keep1 GG kr, hk, rfl, rfl, rfl⟩, GG.p1, Fresh.refl _ _, Fresh.refl _ _⟩
theorem Jd (w : World) (r B : Nat) (id : Nat → Nat) (op : Bool) (mi mn pi pn : Int) (oth : Nat → Nat) (so : Option Addr) (sc : Nat) (u : List RV) (k c : Nat) (H : WX 34 (c34 id true op mi mn pi pn oth ⟨so, u.length, sc⟩ ((k : Nat) : Int) ((c : Nat) : Int)) w r B so sc u) (hk : k ≤ u.length) (hu : u.length ≤ 100000) (hc : c ≤ 100000) (f : Fr) (ni nn : Int) (hf1 : ¬ f.kind = 1) (hf2 : f.kind = 2) (ht : (decide (f.ti = mi) && decide (f.tn = mn)) = true) (hp : (decide (f.fi = pi) && decide (f.fn = pn)) = true) (hn : f.n ≠ ((c : Nat) : Int) + 1) : Calls Try.prog 22 #[pK r 0, .agg (frA f), .agg (c29 ni nn)] w (HearD w r id (r :: blk so) (txb u) (⟨true, true, mi, mn, pi, pn, oth, k, ((u.drop k).map (·.l)), c⟩, ⟨false, (!op), [], false, [⟨3, zF, mi, mn, pi, pn, ((c : Nat) : Int), []⟩]⟩)) := by
  refine jp Try.func22 rfl Try.ntmps22 [pK r 0, .agg (frA f), .agg (c29 ni nn)] ?_
  intro U h; simp only [List.length_cons, List.length_nil, List.cons_append, List.nil_append, Nat.reduceAdd, Nat.reduceSub, List.reduceReplicate] at h; subst h
  have GG := GroS.refl [r] w
  have kr := H.box
  have hpl := H.lt
  have hBl := H.bl
  refine wp_seq (wp_region_lit ?_)
  refine jB 4 rfl rfl 46 _ rfl _ rfl (frA f) rfl ?_
  intro w1 g1 G eg1 kg1
  have bg1 := jl GG eg1
  have drg1 := je kr eg1
  replace kr := G.has kr
  replace GG := GG.tg G
  clear G eg1
  refine jB 5 rfl rfl 29 _ rfl _ rfl (c29 ni nn) rfl ?_
  intro w2 g2 G eg2 kg2
  have bg2 := jl GG eg2
  have drg2 := je kr eg2
  have dg1g2 := je kg1 eg2
  replace kr := G.has kr
  replace kg1 := G.has kg1
  replace GG := GG.tg G
  clear G eg2
  refine jq 6 rfl rfl 62 rfl _ zv62 _ rfl ?_
  intro w3 g3 G eg3 kg3
  have bg3 := jl GG eg3
  have drg3 := je kr eg3
  have dg1g3 := je kg1 eg3
  have dg2g3 := je kg2 eg3
  replace kr := G.has kr
  replace kg1 := G.has kg1
  replace kg2 := G.has kg2
  replace GG := GG.tg G
  clear G eg3
  refine wpList_nil (jc (wp_seq (wp_region_lit ?_)))
  refine jq 7 rfl rfl 62 rfl _ zv62 _ rfl ?_
  intro w4 g4 G eg4 kg4
  have bg4 := jl GG eg4
  have drg4 := je kr eg4
  have dg1g4 := je kg1 eg4
  have dg2g4 := je kg2 eg4
  have dg3g4 := je kg3 eg4
  replace kr := G.has kr
  replace kg1 := G.has kg1
  replace kg2 := G.has kg2
  replace kg3 := G.has kg3
  replace GG := GG.tg G
  clear G eg4
  refine wpList_nil (jc (wp_seq (wp_seq (wp_region_lit (mv 8 (pK r 0) (sv 9 (pK r 0) (jj _ rfl _ rfl) (sv 10 (pK r 16) (jd 34 _ 1 rfl _ _ rfl _) (sv 11 (vTr) (jh 4 _ rfl r 16 rfl 34 _ kr (na4 _) _ rfl) (sv 12 (vFa) (jE _ _ rfl true rfl) ?_)))))))))
  refine nr ?_; intro U h; simp only [z0, z1] at h; subst h
  refine wpList_nil (jc (wp_cond_false rfl (wp_skip (jc (wp_seq (wp_seq (wp_region_lit (sv 14 (pK g1 0) (jd 46 _ 0 rfl _ _ rfl _) (sv 15 (iK f.kind) (jh 3 _ rfl g1 0 rfl 46 _ kg1 (na3 _) _ rfl) (wpList_nil (jc (wp_block (wp_seq (wp_region_lit (sv 17 (vFa) (jo 3 .i64 _ _ _ rfl Try.underlying3 f.kind 1 rfl rfl false (decide_eq_false hf1) _) ?_)))))))))))))))
  refine mv 16 (vFa) (wpList_nil (jc (wp_cond_false rfl (wp_seq (wp_region_lit (sv 115 (vTr) (jo 3 .i64 _ _ _ rfl Try.underlying3 f.kind 2 rfl rfl true (decide_eq_true hf2) _) (mv 114 (vTr) (wpList_nil (jc (wp_cond_true rfl (wp_seq (wp_seq ?_))))))))))))
  refine jk (A := ?Ax45) 14 [(0, 116), (1, 117), (2, 118), (3, 119), (4, 120), (5, 121), (6, 122), (7, 123), (8, 124), (9, 125), (10, 126), (11, 127), (12, 128), (13, 129)] [.val (pK g1 54), .val (.agg (c29 f.ti f.tn)), .val (pK r 0), .val (pK r 0), .val (pK r 18), .val (.agg (c29 mi mn)), .val (vFa), .val (vFa), .val (pK g1 52), .val (.agg (c29 f.fi f.fn)), .val (pK r 0), .val (pK r 0), .val (pK r 20), .val (.agg (c29 pi pn))] follows (by kernel_rfl) rfl ?hAx45 (ja ?o0x45 (ja ?o1x45 (ja ?o2x45 (ja ?o3x45 (ja ?o4x45 (ja ?o5x45 (ja ?o6x45 (ja ?o7x45 (ja ?o8x45 (ja ?o9x45 (ja ?o10x45 (ja ?o11x45 (ja ?o12x45 (ja ?o13x45 jw)))))))))))))) ?restx45
  case hAx45 =>
    intro ptrs
    simp only [full, foldSlots, filledE, postE, List.foldl_cons, List.foldl_nil, List.getD_cons_zero, List.getD_cons_succ, jr, List.set_cons_zero, List.set_cons_succ]
    exact rfl
  case o0x45 => exact fun _ _ hw _ => jb (v := pK g1 54) rfl (jd 46 _ 7 rfl _ _ rfl _)
  case o1x45 => exact fun _ _ hw _ => jb (v := .agg (c29 f.ti f.tn)) rfl (jf 29 _ rfl g1 54 2 rfl 46 _ (hw.has kg1) _ Try.underlying29 rfl si29 _)
  case o2x45 => exact fun _ _ _ _ => jg (v := pK r 0) _ rfl rfl rfl
  case o3x45 => exact fun _ _ hw _ => jb (v := pK r 0) rfl (jj _ rfl _ rfl)
  case o4x45 => exact fun _ _ hw _ => jb (v := pK r 18) rfl (jd 34 _ 3 rfl _ _ rfl _)
  case o5x45 => exact fun _ _ hw _ => jb (v := .agg (c29 mi mn)) rfl (jf 29 _ rfl r 18 2 rfl 34 _ (hw.has kr) _ Try.underlying29 rfl si29 _)
  case o6x45 => exact fun _ _ hw _ => jb (v := vFa) rfl (zq _ _ _ rfl f.ti f.tn mi mn rfl rfl false (by rw [ht]; rfl) _)
  case o7x45 => exact fun _ _ _ _ => jg (v := vFa) _ rfl rfl rfl
  case o8x45 => exact fun _ _ hw _ => jb (v := pK g1 52) rfl (jd 46 _ 6 rfl _ _ rfl _)
  case o9x45 => exact fun _ _ hw _ => jb (v := .agg (c29 f.fi f.fn)) rfl (jf 29 _ rfl g1 52 2 rfl 46 _ (hw.has kg1) _ Try.underlying29 rfl si29 _)
  case o10x45 => exact fun _ _ _ _ => jg (v := pK r 0) _ rfl rfl rfl
  case o11x45 => exact fun _ _ hw _ => jb (v := pK r 0) rfl (jj _ rfl _ rfl)
  case o12x45 => exact fun _ _ hw _ => jb (v := pK r 20) rfl (jd 34 _ 4 rfl _ _ rfl _)
  case o13x45 => exact fun _ _ hw _ => jb (v := .agg (c29 pi pn)) rfl (jf 29 _ rfl r 20 2 rfl 34 _ (hw.has kr) _ Try.underlying29 rfl si29 _)
  intro ptrs w5 GD hxE
  simp only [List.drop_succ_cons, List.drop_zero]
  replace kr := GD.has kr
  replace kg1 := GD.has kg1
  replace kg2 := GD.has kg2
  replace kg3 := GD.has kg3
  replace kg4 := GD.has kg4
  replace GG := GG.drew.tg GD
  clear GD
  refine jI 130 rfl rfl (vFa) (zq _ _ _ rfl f.fi f.fn pi pn rfl rfl false (by rw [hp]; rfl) _) (mv 131 (vFa) (wpList_nil (jc (wp_cond_false rfl (wp_skip (jc (wp_seq (wp_region_lit (mv 133 (pK r 0) ?_)))))))))
  refine nr ?_; intro U h; simp only [z0, z1] at h; subst h
  refine sv 134 (pK r 0) (jj _ rfl _ rfl) (sv 135 (pK r 17) (jd 34 _ 2 rfl _ _ rfl _) (sv 136 (.bool op) (jh 4 _ rfl r 17 rfl 34 _ kr (na4 _) _ rfl) (sv 137 (.bool (!op)) (jE _ _ rfl op rfl) (sv 138 (pK g4 1) (jd 62 _ 1 rfl _ _ rfl _) ?_))))
  refine jn rfl rfl 4 _ _ rfl g4 1 rfl (.bool (!op)) rfl 62 _ kg4 #[.bool (!op)] rfl (by kernel_rfl) (nlB rfl) (by kernel_rfl) (c62 false (!op) Sl.nil false Sl.nil) (by kernel_rfl) ?_
  intro w7 St
  replace kr := St.has (by omega) kr
  replace kg1 := St.has (by omega) kg1
  replace kg2 := St.has (by omega) kg2
  replace kg3 := St.has (by omega) kg3
  replace GG := GG.st St (.inl bg4)
  replace kg4 := St.new
  clear St
  refine wpList_nil (jc (wp_seq (wp_region_lit (mv 139 (pK r 0) (sv 140 (pK r 0) (jj _ rfl _ rfl) (sv 141 (pK r 17) (jd 34 _ 2 rfl _ _ rfl _) ?_))))))
  refine jn rfl rfl 4 _ _ rfl r 17 rfl (vTr) rfl 34 _ kr #[vTr] rfl (by kernel_rfl) (nlB rfl) (by kernel_rfl) (c34 id true true mi mn pi pn oth ⟨so, u.length, sc⟩ ((k : Nat) : Int) ((c : Nat) : Int)) (by kernel_rfl) ?_
  intro w9 St
  replace kg1 := St.has (by omega) kg1
  replace kg2 := St.has (by omega) kg2
  replace kg3 := St.has (by omega) kg3
  replace kg4 := St.has (by omega) kg4
  replace GG := GG.st St (.inr (by simp))
  replace kr := St.new
  clear St
  refine wpList_nil (jc (wp_seq (wp_seq ?_)))
  refine jk (A := ?Ax46) 5 [(0, 142), (1, 143), (2, 144), (3, 145), (4, 146)] [.val (pK r 0), .val (pK r 0), .val (pK r 38), .val (pK g1 51), .val (iK f.n)] follows (by kernel_rfl) rfl ?hAx46 (ja ?o0x46 (ja ?o1x46 (ja ?o2x46 (ja ?o3x46 (ja ?o4x46 jw))))) ?restx46
  case hAx46 =>
    intro ptrs
    simp only [full, foldSlots, filledE, postE, List.foldl_cons, List.foldl_nil, List.getD_cons_zero, List.getD_cons_succ, jr, List.set_cons_zero, List.set_cons_succ]
    exact rfl
  case o0x46 => exact fun _ _ _ _ => jg (v := pK r 0) _ rfl rfl rfl
  case o1x46 => exact fun _ _ hw _ => jb (v := pK r 0) rfl (jj _ rfl _ rfl)
  case o2x46 => exact fun _ _ hw _ => jb (v := pK r 38) rfl (jd 34 _ 6 rfl _ _ rfl _)
  case o3x46 => exact fun _ _ hw _ => jb (v := pK g1 51) rfl (jd 46 _ 5 rfl _ _ rfl _)
  case o4x46 => exact fun _ _ hw _ => jb (v := iK f.n) rfl (jh 2 _ rfl g1 51 rfl 46 _ (hw.has kg1) (na2 _) _ rfl)
  intro ptrs w10 GD hxE
  simp only [List.drop_succ_cons, List.drop_zero]
  replace kr := GD.has kr
  replace kg1 := GD.has kg1
  replace kg2 := GD.has kg2
  replace kg3 := GD.has kg3
  replace kg4 := GD.has kg4
  replace GG := GG.drew.tg GD
  clear GD
  refine jz 147 rfl rfl _ 47 Try.call47 rfl rfl _ rfl [pK r 38, iK f.n] rfl (Ye _ r B id true true mi mn pi pn oth so sc u k c (H.keep1 GG kr) hk hu hc f.n hn) ?_
  intro w11 G
  replace kr := G.has kr
  replace kg1 := G.has kg1
  replace kg2 := G.has kg2
  replace kg3 := G.has kg3
  replace kg4 := G.has kg4
  replace GG := GG.tg G
  clear G
  refine nr ?_; intro U h; simp only [z0, z1] at h; subst h
  refine wpList_nil (jc (wp_cond_false rfl (wp_skip (jc ?_))))
  refine jk (A := ?Ax47) 13 [(0, 154), (1, 155), (2, 156), (3, 157), (4, 158), (5, 159), (6, 160), (7, 161), (8, 162), (9, 163), (10, 164), (11, 165), (12, 166)] [.val (pK r 0), .val (pK r 0), .val (pK r 18), .val (.agg (c29 mi mn)), .val (pK r 0), .val (pK r 0), .val (pK r 20), .val (.agg (c29 pi pn)), .val (pK r 0), .val (pK r 0), .val (pK r 38), .val (pK r 40), .val (iK ((c : Nat) : Int))] follows (by kernel_rfl) rfl ?hAx47 (ja ?o0x47 (ja ?o1x47 (ja ?o2x47 (ja ?o3x47 (ja ?o4x47 (ja ?o5x47 (ja ?o6x47 (ja ?o7x47 (ja ?o8x47 (ja ?o9x47 (ja ?o10x47 (ja ?o11x47 (ja ?o12x47 jw))))))))))))) ?restx47
  case hAx47 =>
    intro ptrs
    simp only [full, foldSlots, filledE, postE, List.foldl_cons, List.foldl_nil, List.getD_cons_zero, List.getD_cons_succ, jr, List.set_cons_zero, List.set_cons_succ]
    exact rfl
  case o0x47 => exact fun _ _ _ _ => jg (v := pK r 0) _ rfl rfl rfl
  case o1x47 => exact fun _ _ hw _ => jb (v := pK r 0) rfl (jj _ rfl _ rfl)
  case o2x47 => exact fun _ _ hw _ => jb (v := pK r 18) rfl (jd 34 _ 3 rfl _ _ rfl _)
  case o3x47 => exact fun _ _ hw _ => jb (v := .agg (c29 mi mn)) rfl (jf 29 _ rfl r 18 2 rfl 34 _ (hw.has kr) _ Try.underlying29 rfl si29 _)
  case o4x47 => exact fun _ _ _ _ => jg (v := pK r 0) _ rfl rfl rfl
  case o5x47 => exact fun _ _ hw _ => jb (v := pK r 0) rfl (jj _ rfl _ rfl)
  case o6x47 => exact fun _ _ hw _ => jb (v := pK r 20) rfl (jd 34 _ 4 rfl _ _ rfl _)
  case o7x47 => exact fun _ _ hw _ => jb (v := .agg (c29 pi pn)) rfl (jf 29 _ rfl r 20 2 rfl 34 _ (hw.has kr) _ Try.underlying29 rfl si29 _)
  case o8x47 => exact fun _ _ _ _ => jg (v := pK r 0) _ rfl rfl rfl
  case o9x47 => exact fun _ _ hw _ => jb (v := pK r 0) rfl (jj _ rfl _ rfl)
  case o10x47 => exact fun _ _ hw _ => jb (v := pK r 38) rfl (jd 34 _ 6 rfl _ _ rfl _)
  case o11x47 => exact fun _ _ hw _ => jb (v := pK r 40) rfl (jd 32 _ 2 rfl _ _ rfl _)
  case o12x47 => exact fun _ _ hw _ => jb (v := iK ((c : Nat) : Int)) rfl (jh 2 _ rfl r 40 rfl 34 _ (hw.has kr) (na2 _) _ rfl)
  intro ptrs w12 GD hxE
  simp only [List.drop_succ_cons, List.drop_zero]
  replace kr := GD.has kr
  replace kg1 := GD.has kg1
  replace kg2 := GD.has kg2
  replace kg3 := GD.has kg3
  replace kg4 := GD.has kg4
  replace GG := GG.drew.tg GD
  clear GD
  refine sv 167 (.agg (c46 3 zF 0 false zF zF ((c : Nat) : Int) mi mn pi pn Sl.nil Sl.nil zF 0 zF Sl.nil 0 0 Sl.nil)) (jy 46 _ rfl [(0, iK 3), (6, .agg (c29 mi mn)), (7, .agg (c29 pi pn)), (5, iK ((c : Nat) : Int))] rfl _ (by kernel_rfl)) ?_
  refine zk 168 rfl rfl 50 1 _ rfl [(0, .agg (c46 3 zF 0 false zF zF ((c : Nat) : Int) mi mn pi pn Sl.nil Sl.nil zF 0 zF Sl.nil 0 0 Sl.nil))] rfl (c46 3 zF 0 false zF zF ((c : Nat) : Int) mi mn pi pn Sl.nil Sl.nil zF 0 zF Sl.nil 0 0 Sl.nil) 46 (by kernel_rfl) ?_
  intro w13 g5 G eg5 kg5
  have bg5 := jl GG eg5
  have drg5 := je kr eg5
  have dg1g5 := je kg1 eg5
  have dg2g5 := je kg2 eg5
  have dg3g5 := je kg3 eg5
  have dg4g5 := je kg4 eg5
  replace kr := G.has kr
  replace kg1 := G.has kg1
  replace kg2 := G.has kg2
  replace kg3 := G.has kg3
  replace kg4 := G.has kg4
  replace GG := GG.tg G
  clear G eg5
  refine sv 169 (pK g4 4) (jd 62 _ 4 rfl _ _ rfl _) ?_
  refine jn rfl rfl 50 _ _ rfl g4 4 rfl (.slice (some ⟨g5, 0, none⟩) 1 1) rfl 62 _ kg4 #[.slice (some ⟨g5, 0, none⟩) 1 1] rfl (by kernel_rfl) (nlB rfl) (by kernel_rfl) (c62 false (!op) Sl.nil false ⟨some ⟨g5, 0, none⟩, 1, 1⟩) (by kernel_rfl) ?_
  intro w15 St
  replace kr := St.has (by omega) kr
  replace kg1 := St.has (by omega) kg1
  replace kg2 := St.has (by omega) kg2
  replace kg3 := St.has (by omega) kg3
  replace kg5 := St.has (by omega) kg5
  replace GG := GG.st St (.inl bg4)
  replace kg4 := St.new
  clear St
  refine wpList_nil (zh (jc (wp_seq (wp_region_lit (sv 203 (.agg (c62 false (!op) Sl.nil false ⟨some ⟨g5, 0, none⟩, 1, 1⟩)) (jf 62 _ rfl g4 0 5 rfl 62 _ kg4 _ Try.underlying62 rfl si62 _) ?_)))))
  refine jn rfl rfl 62 _ _ rfl g3 0 rfl (.agg (c62 false (!op) Sl.nil false ⟨some ⟨g5, 0, none⟩, 1, 1⟩)) rfl 62 _ kg3 (c62 false (!op) Sl.nil false ⟨some ⟨g5, 0, none⟩, 1, 1⟩) rfl (by kernel_rfl) (nlB rfl) (by kernel_rfl) (c62 false (!op) Sl.nil false ⟨some ⟨g5, 0, none⟩, 1, 1⟩) (by kernel_rfl) ?_
  intro w17 St
  replace kr := St.has (by omega) kr
  replace kg1 := St.has (by omega) kg1
  replace kg2 := St.has (by omega) kg2
  replace kg4 := St.has (by omega) kg4
  replace kg5 := St.has (by omega) kg5
  replace GG := GG.st St (.inl bg3)
  replace kg3 := St.new
  clear St
  refine wpList_nil (jc (wp_ret ?_))
  refine bodyPost_ret (results_cell_row Try.results22 _ _ g3 62 _ (0, 0) _ rfl kg3 Try.underlying62 rfl (by kernel_rfl)) rfl ?_
  exact ⟨_, (r :: blk so), (txb u), rfl, ⟨none, 0, _, _, [(_, _)], rfl, OB.nil _ _ _ _, rfl, LF.one (f := pfr ⟨3, zF, mi, mn, pi, pn, ((c : Nat) : Int), []⟩ Sl.nil Sl.nil Sl.nil Sl.nil) kg5 (Nat.zero_le _) (zQ _ _ _ _ _ _ _ _)⟩, ⟨B, so, sc, u, H.keep1 GG kr, hk, rfl, rfl, rfl⟩, GG.p1, Fresh.refl _ _, Fresh.refl _ _⟩
theorem Yf (w : World) (r B : Nat) (id : Nat → Nat) (op : Bool) (mi mn pi pn : Int) (oth : Nat → Nat) (so : Option Addr) (sc : Nat) (u : List RV) (k c : Nat) (H : WX 34 (c34 id true op mi mn pi pn oth ⟨so, u.length, sc⟩ ((k : Nat) : Int) ((c : Nat) : Int)) w r B so sc u) (hk : k ≤ u.length) (hu : u.length ≤ 100000) (hc : c ≤ 100000) (f : Fr) (ni nn : Int) (hf1 : ¬ f.kind = 1) (hf2 : ¬ f.kind = 2) (hf3 : f.kind = 3) (ht : (decide (f.ti = mi) && decide (f.tn = mn)) = true) (hp : (decide (f.fi = pi) && decide (f.fn = pn)) = true) (hn : f.n < ((k : Nat) : Int) + 1) : Calls Try.prog 22 #[pK r 0, .agg (frA f), .agg (c29 ni nn)] w (HearD w r id (r :: blk so) (txb u) (⟨true, true, mi, mn, pi, pn, oth, k, ((u.drop k).map (·.l)), c⟩, ⟨false, (!op), [], false, []⟩)) := by
  refine jp Try.func22 rfl Try.ntmps22 [pK r 0, .agg (frA f), .agg (c29 ni nn)] ?_
  intro U h; simp only [List.length_cons, List.length_nil, List.cons_append, List.nil_append, Nat.reduceAdd, Nat.reduceSub, List.reduceReplicate] at h; subst h
  have GG := GroS.refl [r] w
  have kr := H.box
  have hpl := H.lt
  have hBl := H.bl
  refine wp_seq (wp_region_lit ?_)
  refine jB 4 rfl rfl 46 _ rfl _ rfl (frA f) rfl ?_
  intro w1 g1 G eg1 kg1
  have bg1 := jl GG eg1
  have drg1 := je kr eg1
  replace kr := G.has kr
  replace GG := GG.tg G
  clear G eg1
  refine jB 5 rfl rfl 29 _ rfl _ rfl (c29 ni nn) rfl ?_
  intro w2 g2 G eg2 kg2
  have bg2 := jl GG eg2
  have drg2 := je kr eg2
  have dg1g2 := je kg1 eg2
  replace kr := G.has kr
  replace kg1 := G.has kg1
  replace GG := GG.tg G
  clear G eg2
  refine jq 6 rfl rfl 62 rfl _ zv62 _ rfl ?_
  intro w3 g3 G eg3 kg3
  have bg3 := jl GG eg3
  have drg3 := je kr eg3
  have dg1g3 := je kg1 eg3
  have dg2g3 := je kg2 eg3
  replace kr := G.has kr
  replace kg1 := G.has kg1
  replace kg2 := G.has kg2
  replace GG := GG.tg G
  clear G eg3
  refine wpList_nil (jc (wp_seq (wp_region_lit ?_)))
  refine jq 7 rfl rfl 62 rfl _ zv62 _ rfl ?_
  intro w4 g4 G eg4 kg4
  have bg4 := jl GG eg4
  have drg4 := je kr eg4
  have dg1g4 := je kg1 eg4
  have dg2g4 := je kg2 eg4
  have dg3g4 := je kg3 eg4
  replace kr := G.has kr
  replace kg1 := G.has kg1
  replace kg2 := G.has kg2
  replace kg3 := G.has kg3
  replace GG := GG.tg G
  clear G eg4
  refine wpList_nil (jc (wp_seq (wp_seq (wp_region_lit (mv 8 (pK r 0) (sv 9 (pK r 0) (jj _ rfl _ rfl) (sv 10 (pK r 16) (jd 34 _ 1 rfl _ _ rfl _) (sv 11 (vTr) (jh 4 _ rfl r 16 rfl 34 _ kr (na4 _) _ rfl) (sv 12 (vFa) (jE _ _ rfl true rfl) ?_)))))))))
  refine nr ?_; intro U h; simp only [z0, z1] at h; subst h
  refine wpList_nil (jc (wp_cond_false rfl (wp_skip (jc (wp_seq (wp_seq (wp_region_lit (sv 14 (pK g1 0) (jd 46 _ 0 rfl _ _ rfl _) (sv 15 (iK f.kind) (jh 3 _ rfl g1 0 rfl 46 _ kg1 (na3 _) _ rfl) (wpList_nil (jc (wp_block (wp_seq (wp_region_lit (sv 17 (vFa) (jo 3 .i64 _ _ _ rfl Try.underlying3 f.kind 1 rfl rfl false (decide_eq_false hf1) _) ?_)))))))))))))))
  refine mv 16 (vFa) (wpList_nil (jc (wp_cond_false rfl (wp_seq (wp_region_lit (sv 115 (vFa) (jo 3 .i64 _ _ _ rfl Try.underlying3 f.kind 2 rfl rfl false (decide_eq_false hf2) _) (mv 114 (vFa) (wpList_nil (jc (wp_cond_false rfl (wp_seq (wp_region_lit (sv 171 (vTr) (jo 3 .i64 _ _ _ rfl Try.underlying3 f.kind 3 rfl rfl true (decide_eq_true hf3) _) (mv 170 (vTr) ?_))))))))))))))
  refine wpList_nil (jc (wp_cond_true rfl (wp_seq ?_)))
  refine jk (A := ?Ax48) 14 [(0, 172), (1, 173), (2, 174), (3, 175), (4, 176), (5, 177), (6, 178), (7, 179), (8, 180), (9, 181), (10, 182), (11, 183), (12, 184), (13, 185)] [.val (pK g1 54), .val (.agg (c29 f.ti f.tn)), .val (pK r 0), .val (pK r 0), .val (pK r 18), .val (.agg (c29 mi mn)), .val (vTr), .val (vTr), .val (pK g1 52), .val (.agg (c29 f.fi f.fn)), .val (pK r 0), .val (pK r 0), .val (pK r 20), .val (.agg (c29 pi pn))] follows (by kernel_rfl) rfl ?hAx48 (ja ?o0x48 (ja ?o1x48 (ja ?o2x48 (ja ?o3x48 (ja ?o4x48 (ja ?o5x48 (ja ?o6x48 (ja ?o7x48 (ja ?o8x48 (ja ?o9x48 (ja ?o10x48 (ja ?o11x48 (ja ?o12x48 (ja ?o13x48 jw)))))))))))))) ?restx48
  case hAx48 =>
    intro ptrs
    simp only [full, foldSlots, filledE, postE, List.foldl_cons, List.foldl_nil, List.getD_cons_zero, List.getD_cons_succ, jr, List.set_cons_zero, List.set_cons_succ]
    exact rfl
  case o0x48 => exact fun _ _ hw _ => jb (v := pK g1 54) rfl (jd 46 _ 7 rfl _ _ rfl _)
  case o1x48 => exact fun _ _ hw _ => jb (v := .agg (c29 f.ti f.tn)) rfl (jf 29 _ rfl g1 54 2 rfl 46 _ (hw.has kg1) _ Try.underlying29 rfl si29 _)
  case o2x48 => exact fun _ _ _ _ => jg (v := pK r 0) _ rfl rfl rfl
  case o3x48 => exact fun _ _ hw _ => jb (v := pK r 0) rfl (jj _ rfl _ rfl)
  case o4x48 => exact fun _ _ hw _ => jb (v := pK r 18) rfl (jd 34 _ 3 rfl _ _ rfl _)
  case o5x48 => exact fun _ _ hw _ => jb (v := .agg (c29 mi mn)) rfl (jf 29 _ rfl r 18 2 rfl 34 _ (hw.has kr) _ Try.underlying29 rfl si29 _)
  case o6x48 => exact fun _ _ hw _ => jb (v := vTr) rfl (jH _ _ _ rfl f.ti f.tn mi mn rfl rfl true (ht) _)
  case o7x48 => exact fun _ _ _ _ => jg (v := vTr) _ rfl rfl rfl
  case o8x48 => exact fun _ _ hw _ => jb (v := pK g1 52) rfl (jd 46 _ 6 rfl _ _ rfl _)
  case o9x48 => exact fun _ _ hw _ => jb (v := .agg (c29 f.fi f.fn)) rfl (jf 29 _ rfl g1 52 2 rfl 46 _ (hw.has kg1) _ Try.underlying29 rfl si29 _)
  case o10x48 => exact fun _ _ _ _ => jg (v := pK r 0) _ rfl rfl rfl
  case o11x48 => exact fun _ _ hw _ => jb (v := pK r 0) rfl (jj _ rfl _ rfl)
  case o12x48 => exact fun _ _ hw _ => jb (v := pK r 20) rfl (jd 34 _ 4 rfl _ _ rfl _)
  case o13x48 => exact fun _ _ hw _ => jb (v := .agg (c29 pi pn)) rfl (jf 29 _ rfl r 20 2 rfl 34 _ (hw.has kr) _ Try.underlying29 rfl si29 _)
  intro ptrs w5 GD hxE
  simp only [List.drop_succ_cons, List.drop_zero]
  replace kr := GD.has kr
  replace kg1 := GD.has kg1
  replace kg2 := GD.has kg2
  replace kg3 := GD.has kg3
  replace kg4 := GD.has kg4
  replace GG := GG.drew.tg GD
  clear GD
  refine jI 186 rfl rfl (vTr) (jH _ _ _ rfl f.fi f.fn pi pn rfl rfl true (hp) _) ?_
  refine nr ?_; intro U h; simp only [z0, z1] at h; subst h
  refine mv 187 (vTr) (wpList_nil (jc (wp_cond_true rfl (wp_seq (wp_region_lit (mv 188 (pK r 0) (sv 189 (pK r 0) (jj _ rfl _ rfl) (sv 190 (pK r 17) (jd 34 _ 2 rfl _ _ rfl _) (sv 191 (.bool op) (jh 4 _ rfl r 17 rfl 34 _ kr (na4 _) _ rfl) ?_)))))))))
  refine sv 192 (.bool (!op)) (jE _ _ rfl op rfl) (sv 193 (pK g4 1) (jd 62 _ 1 rfl _ _ rfl _) ?_)
  refine jn rfl rfl 4 _ _ rfl g4 1 rfl (.bool (!op)) rfl 62 _ kg4 #[.bool (!op)] rfl (by kernel_rfl) (nlB rfl) (by kernel_rfl) (c62 false (!op) Sl.nil false Sl.nil) (by kernel_rfl) ?_
  intro w7 St
  replace kr := St.has (by omega) kr
  replace kg1 := St.has (by omega) kg1
  replace kg2 := St.has (by omega) kg2
  replace kg3 := St.has (by omega) kg3
  replace GG := GG.st St (.inl bg4)
  replace kg4 := St.new
  clear St
  refine wpList_nil (jc (wp_seq (wp_region_lit (mv 194 (pK r 0) (sv 195 (pK r 0) (jj _ rfl _ rfl) ?_)))))
  refine nr ?_; intro U h; simp only [z0, z1] at h; subst h
  refine sv 196 (pK r 17) (jd 34 _ 2 rfl _ _ rfl _) ?_
  refine jn rfl rfl 4 _ _ rfl r 17 rfl (vTr) rfl 34 _ kr #[vTr] rfl (by kernel_rfl) (nlB rfl) (by kernel_rfl) (c34 id true true mi mn pi pn oth ⟨so, u.length, sc⟩ ((k : Nat) : Int) ((c : Nat) : Int)) (by kernel_rfl) ?_
  intro w9 St
  replace kg1 := St.has (by omega) kg1
  replace kg2 := St.has (by omega) kg2
  replace kg3 := St.has (by omega) kg3
  replace kg4 := St.has (by omega) kg4
  replace GG := GG.st St (.inr (by simp))
  replace kr := St.new
  clear St
  refine wpList_nil (jc ?_)
  refine jk (A := ?Ax49) 5 [(0, 197), (1, 198), (2, 199), (3, 200), (4, 201)] [.val (pK r 0), .val (pK r 0), .val (pK r 38), .val (pK g1 51), .val (iK f.n)] follows (by kernel_rfl) rfl ?hAx49 (ja ?o0x49 (ja ?o1x49 (ja ?o2x49 (ja ?o3x49 (ja ?o4x49 jw))))) ?restx49
  case hAx49 =>
    intro ptrs
    simp only [full, foldSlots, filledE, postE, List.foldl_cons, List.foldl_nil, List.getD_cons_zero, List.getD_cons_succ, jr, List.set_cons_zero, List.set_cons_succ]
    exact rfl
  case o0x49 => exact fun _ _ _ _ => jg (v := pK r 0) _ rfl rfl rfl
  case o1x49 => exact fun _ _ hw _ => jb (v := pK r 0) rfl (jj _ rfl _ rfl)
  case o2x49 => exact fun _ _ hw _ => jb (v := pK r 38) rfl (jd 34 _ 6 rfl _ _ rfl _)
  case o3x49 => exact fun _ _ hw _ => jb (v := pK g1 51) rfl (jd 46 _ 5 rfl _ _ rfl _)
  case o4x49 => exact fun _ _ hw _ => jb (v := iK f.n) rfl (jh 2 _ rfl g1 51 rfl 46 _ (hw.has kg1) (na2 _) _ rfl)
  intro ptrs w10 GD hxE
  simp only [List.drop_succ_cons, List.drop_zero]
  replace kr := GD.has kr
  replace kg1 := GD.has kg1
  replace kg2 := GD.has kg2
  replace kg3 := GD.has kg3
  replace kg4 := GD.has kg4
  replace GG := GG.drew.tg GD
  clear GD
  refine jz 202 rfl rfl _ 48 Try.call48 rfl rfl _ rfl [pK r 38, iK f.n] rfl (JI _ r B id true true mi mn pi pn oth so sc u k c (H.keep1 GG kr) hk hu hc f.n hn) ?_
  intro w11 G
  replace kr := G.has kr
  replace kg1 := G.has kg1
  replace kg2 := G.has kg2
  replace kg3 := G.has kg3
  replace kg4 := G.has kg4
  replace GG := GG.tg G
  clear G
  refine wpList_nil (zh (jc (wp_seq (wp_region_lit (sv 203 (.agg (c62 false (!op) Sl.nil false Sl.nil)) (jf 62 _ rfl g4 0 5 rfl 62 _ kg4 _ Try.underlying62 rfl si62 _) ?_)))))
  refine jn rfl rfl 62 _ _ rfl g3 0 rfl (.agg (c62 false (!op) Sl.nil false Sl.nil)) rfl 62 _ kg3 (c62 false (!op) Sl.nil false Sl.nil) rfl (by kernel_rfl) (nlB rfl) (by kernel_rfl) (c62 false (!op) Sl.nil false Sl.nil) (by kernel_rfl) ?_
  intro w13 St
  replace kr := St.has (by omega) kr
  replace kg1 := St.has (by omega) kg1
  replace kg2 := St.has (by omega) kg2
  replace kg4 := St.has (by omega) kg4
  replace GG := GG.st St (.inl bg3)
  replace kg3 := St.new
  clear St
  refine wpList_nil (jc (wp_ret ?_))
  refine bodyPost_ret (results_cell_row Try.results22 _ _ g3 62 _ (0, 0) _ rfl kg3 Try.underlying62 rfl (by kernel_rfl)) rfl ?_
  exact ⟨_, (r :: blk so), (txb u), rfl, ⟨none, 0, none, 0, [], rfl, OB.nil _ _ _ _, rfl, LF.nil _ _⟩, ⟨B, so, sc, u, H.keep1 GG kr, hk, rfl, rfl, rfl⟩, GG.p1, Fresh.refl _ _, Fresh.refl _ _⟩
theorem Zy (w : World) (r B : Nat) (id : Nat → Nat) (op : Bool) (mi mn pi pn : Int) (oth : Nat → Nat) (so : Option Addr) (sc : Nat) (u : List RV) (k c : Nat) (H : WX 34 (c34 id true op mi mn pi pn oth ⟨so, u.length, sc⟩ ((k : Nat) : Int) ((c : Nat) : Int)) w r B so sc u) (hk : k ≤ u.length) (hu : u.length ≤ 100000) (hc : c ≤ 100000) (f : Fr) (ni nn : Int) (hf1 : ¬ f.kind = 1) (hf2 : ¬ f.kind = 2) (hf3 : f.kind = 3) (ht : (decide (f.ti = mi) && decide (f.tn = mn)) = true) (hp : (decide (f.fi = pi) && decide (f.fn = pn)) = true) (hn : ((u.length : Nat) : Int) < f.n) : Calls Try.prog 22 #[pK r 0, .agg (frA f), .agg (c29 ni nn)] w (HearD w r id (r :: blk so) (txb u) (⟨true, true, mi, mn, pi, pn, oth, k, ((u.drop k).map (·.l)), c⟩, ⟨false, (!op), [], false, []⟩)) := by
  refine jp Try.func22 rfl Try.ntmps22 [pK r 0, .agg (frA f), .agg (c29 ni nn)] ?_
  intro U h; simp only [List.length_cons, List.length_nil, List.cons_append, List.nil_append, Nat.reduceAdd, Nat.reduceSub, List.reduceReplicate] at h; subst h
  have GG := GroS.refl [r] w
  have kr := H.box
  have hpl := H.lt
  have hBl := H.bl
  refine wp_seq (wp_region_lit ?_)
  refine jB 4 rfl rfl 46 _ rfl _ rfl (frA f) rfl ?_
  intro w1 g1 G eg1 kg1
  have bg1 := jl GG eg1
  have drg1 := je kr eg1
  replace kr := G.has kr
  replace GG := GG.tg G
  clear G eg1
  refine jB 5 rfl rfl 29 _ rfl _ rfl (c29 ni nn) rfl ?_
  intro w2 g2 G eg2 kg2
  have bg2 := jl GG eg2
  have drg2 := je kr eg2
  have dg1g2 := je kg1 eg2
  replace kr := G.has kr
  replace kg1 := G.has kg1
  replace GG := GG.tg G
  clear G eg2
  refine jq 6 rfl rfl 62 rfl _ zv62 _ rfl ?_
  intro w3 g3 G eg3 kg3
  have bg3 := jl GG eg3
  have drg3 := je kr eg3
  have dg1g3 := je kg1 eg3
  have dg2g3 := je kg2 eg3
  replace kr := G.has kr
  replace kg1 := G.has kg1
  replace kg2 := G.has kg2
  replace GG := GG.tg G
  clear G eg3
  refine wpList_nil (jc (wp_seq (wp_region_lit ?_)))
  refine jq 7 rfl rfl 62 rfl _ zv62 _ rfl ?_
  intro w4 g4 G eg4 kg4
  have bg4 := jl GG eg4
  have drg4 := je kr eg4
  have dg1g4 := je kg1 eg4
  have dg2g4 := je kg2 eg4
  have dg3g4 := je kg3 eg4
  replace kr := G.has kr
  replace kg1 := G.has kg1
  replace kg2 := G.has kg2
  replace kg3 := G.has kg3
  replace GG := GG.tg G
  clear G eg4
  refine wpList_nil (jc (wp_seq (wp_seq (wp_region_lit (mv 8 (pK r 0) (sv 9 (pK r 0) (jj _ rfl _ rfl) (sv 10 (pK r 16) (jd 34 _ 1 rfl _ _ rfl _) (sv 11 (vTr) (jh 4 _ rfl r 16 rfl 34 _ kr (na4 _) _ rfl) (sv 12 (vFa) (jE _ _ rfl true rfl) ?_)))))))))
  refine nr ?_; intro U h; simp only [z0, z1] at h; subst h
  refine wpList_nil (jc (wp_cond_false rfl (wp_skip (jc (wp_seq (wp_seq (wp_region_lit (sv 14 (pK g1 0) (jd 46 _ 0 rfl _ _ rfl _) (sv 15 (iK f.kind) (jh 3 _ rfl g1 0 rfl 46 _ kg1 (na3 _) _ rfl) (wpList_nil (jc (wp_block (wp_seq (wp_region_lit (sv 17 (vFa) (jo 3 .i64 _ _ _ rfl Try.underlying3 f.kind 1 rfl rfl false (decide_eq_false hf1) _) ?_)))))))))))))))
  refine mv 16 (vFa) (wpList_nil (jc (wp_cond_false rfl (wp_seq (wp_region_lit (sv 115 (vFa) (jo 3 .i64 _ _ _ rfl Try.underlying3 f.kind 2 rfl rfl false (decide_eq_false hf2) _) (mv 114 (vFa) (wpList_nil (jc (wp_cond_false rfl (wp_seq (wp_region_lit (sv 171 (vTr) (jo 3 .i64 _ _ _ rfl Try.underlying3 f.kind 3 rfl rfl true (decide_eq_true hf3) _) (mv 170 (vTr) ?_))))))))))))))
  refine wpList_nil (jc (wp_cond_true rfl (wp_seq ?_)))
  refine jk (A := ?Ax50) 14 [(0, 172), (1, 173), (2, 174), (3, 175), (4, 176), (5, 177), (6, 178), (7, 179), (8, 180), (9, 181), (10, 182), (11, 183), (12, 184), (13, 185)] [.val (pK g1 54), .val (.agg (c29 f.ti f.tn)), .val (pK r 0), .val (pK r 0), .val (pK r 18), .val (.agg (c29 mi mn)), .val (vTr), .val (vTr), .val (pK g1 52), .val (.agg (c29 f.fi f.fn)), .val (pK r 0), .val (pK r 0), .val (pK r 20), .val (.agg (c29 pi pn))] follows (by kernel_rfl) rfl ?hAx50 (ja ?o0x50 (ja ?o1x50 (ja ?o2x50 (ja ?o3x50 (ja ?o4x50 (ja ?o5x50 (ja ?o6x50 (ja ?o7x50 (ja ?o8x50 (ja ?o9x50 (ja ?o10x50 (ja ?o11x50 (ja ?o12x50 (ja ?o13x50 jw)))))))))))))) ?restx50
  case hAx50 =>
    intro ptrs
    simp only [full, foldSlots, filledE, postE, List.foldl_cons, List.foldl_nil, List.getD_cons_zero, List.getD_cons_succ, jr, List.set_cons_zero, List.set_cons_succ]
    exact rfl
  case o0x50 => exact fun _ _ hw _ => jb (v := pK g1 54) rfl (jd 46 _ 7 rfl _ _ rfl _)
  case o1x50 => exact fun _ _ hw _ => jb (v := .agg (c29 f.ti f.tn)) rfl (jf 29 _ rfl g1 54 2 rfl 46 _ (hw.has kg1) _ Try.underlying29 rfl si29 _)
  case o2x50 => exact fun _ _ _ _ => jg (v := pK r 0) _ rfl rfl rfl
  case o3x50 => exact fun _ _ hw _ => jb (v := pK r 0) rfl (jj _ rfl _ rfl)
  case o4x50 => exact fun _ _ hw _ => jb (v := pK r 18) rfl (jd 34 _ 3 rfl _ _ rfl _)
  case o5x50 => exact fun _ _ hw _ => jb (v := .agg (c29 mi mn)) rfl (jf 29 _ rfl r 18 2 rfl 34 _ (hw.has kr) _ Try.underlying29 rfl si29 _)
  case o6x50 => exact fun _ _ hw _ => jb (v := vTr) rfl (jH _ _ _ rfl f.ti f.tn mi mn rfl rfl true (ht) _)
  case o7x50 => exact fun _ _ _ _ => jg (v := vTr) _ rfl rfl rfl
  case o8x50 => exact fun _ _ hw _ => jb (v := pK g1 52) rfl (jd 46 _ 6 rfl _ _ rfl _)
  case o9x50 => exact fun _ _ hw _ => jb (v := .agg (c29 f.fi f.fn)) rfl (jf 29 _ rfl g1 52 2 rfl 46 _ (hw.has kg1) _ Try.underlying29 rfl si29 _)
  case o10x50 => exact fun _ _ _ _ => jg (v := pK r 0) _ rfl rfl rfl
  case o11x50 => exact fun _ _ hw _ => jb (v := pK r 0) rfl (jj _ rfl _ rfl)
  case o12x50 => exact fun _ _ hw _ => jb (v := pK r 20) rfl (jd 34 _ 4 rfl _ _ rfl _)
  case o13x50 => exact fun _ _ hw _ => jb (v := .agg (c29 pi pn)) rfl (jf 29 _ rfl r 20 2 rfl 34 _ (hw.has kr) _ Try.underlying29 rfl si29 _)
  intro ptrs w5 GD hxE
  simp only [List.drop_succ_cons, List.drop_zero]
  replace kr := GD.has kr
  replace kg1 := GD.has kg1
  replace kg2 := GD.has kg2
  replace kg3 := GD.has kg3
  replace kg4 := GD.has kg4
  replace GG := GG.drew.tg GD
  clear GD
  refine jI 186 rfl rfl (vTr) (jH _ _ _ rfl f.fi f.fn pi pn rfl rfl true (hp) _) ?_
  refine nr ?_; intro U h; simp only [z0, z1] at h; subst h
  refine mv 187 (vTr) (wpList_nil (jc (wp_cond_true rfl (wp_seq (wp_region_lit (mv 188 (pK r 0) (sv 189 (pK r 0) (jj _ rfl _ rfl) (sv 190 (pK r 17) (jd 34 _ 2 rfl _ _ rfl _) (sv 191 (.bool op) (jh 4 _ rfl r 17 rfl 34 _ kr (na4 _) _ rfl) ?_)))))))))
  refine sv 192 (.bool (!op)) (jE _ _ rfl op rfl) (sv 193 (pK g4 1) (jd 62 _ 1 rfl _ _ rfl _) ?_)
  refine jn rfl rfl 4 _ _ rfl g4 1 rfl (.bool (!op)) rfl 62 _ kg4 #[.bool (!op)] rfl (by kernel_rfl) (nlB rfl) (by kernel_rfl) (c62 false (!op) Sl.nil false Sl.nil) (by kernel_rfl) ?_
  intro w7 St
  replace kr := St.has (by omega) kr
  replace kg1 := St.has (by omega) kg1
  replace kg2 := St.has (by omega) kg2
  replace kg3 := St.has (by omega) kg3
  replace GG := GG.st St (.inl bg4)
  replace kg4 := St.new
  clear St
  refine wpList_nil (jc (wp_seq (wp_region_lit (mv 194 (pK r 0) (sv 195 (pK r 0) (jj _ rfl _ rfl) ?_)))))
  refine nr ?_; intro U h; simp only [z0, z1] at h; subst h
  refine sv 196 (pK r 17) (jd 34 _ 2 rfl _ _ rfl _) ?_
  refine jn rfl rfl 4 _ _ rfl r 17 rfl (vTr) rfl 34 _ kr #[vTr] rfl (by kernel_rfl) (nlB rfl) (by kernel_rfl) (c34 id true true mi mn pi pn oth ⟨so, u.length, sc⟩ ((k : Nat) : Int) ((c : Nat) : Int)) (by kernel_rfl) ?_
  intro w9 St
  replace kg1 := St.has (by omega) kg1
  replace kg2 := St.has (by omega) kg2
  replace kg3 := St.has (by omega) kg3
  replace kg4 := St.has (by omega) kg4
  replace GG := GG.st St (.inr (by simp))
  replace kr := St.new
  clear St
  refine wpList_nil (jc ?_)
  refine jk (A := ?Ax51) 5 [(0, 197), (1, 198), (2, 199), (3, 200), (4, 201)] [.val (pK r 0), .val (pK r 0), .val (pK r 38), .val (pK g1 51), .val (iK f.n)] follows (by kernel_rfl) rfl ?hAx51 (ja ?o0x51 (ja ?o1x51 (ja ?o2x51 (ja ?o3x51 (ja ?o4x51 jw))))) ?restx51
  case hAx51 =>
    intro ptrs
    simp only [full, foldSlots, filledE, postE, List.foldl_cons, List.foldl_nil, List.getD_cons_zero, List.getD_cons_succ, jr, List.set_cons_zero, List.set_cons_succ]
    exact rfl
  case o0x51 => exact fun _ _ _ _ => jg (v := pK r 0) _ rfl rfl rfl
  case o1x51 => exact fun _ _ hw _ => jb (v := pK r 0) rfl (jj _ rfl _ rfl)
  case o2x51 => exact fun _ _ hw _ => jb (v := pK r 38) rfl (jd 34 _ 6 rfl _ _ rfl _)
  case o3x51 => exact fun _ _ hw _ => jb (v := pK g1 51) rfl (jd 46 _ 5 rfl _ _ rfl _)
  case o4x51 => exact fun _ _ hw _ => jb (v := iK f.n) rfl (jh 2 _ rfl g1 51 rfl 46 _ (hw.has kg1) (na2 _) _ rfl)
  intro ptrs w10 GD hxE
  simp only [List.drop_succ_cons, List.drop_zero]
  replace kr := GD.has kr
  replace kg1 := GD.has kg1
  replace kg2 := GD.has kg2
  replace kg3 := GD.has kg3
  replace kg4 := GD.has kg4
  replace GG := GG.drew.tg GD
  clear GD
  refine jz 202 rfl rfl _ 48 Try.call48 rfl rfl _ rfl [pK r 38, iK f.n] rfl (Je _ r B id true true mi mn pi pn oth so sc u k c (H.keep1 GG kr) hk hu hc f.n hn) ?_
  intro w11 G
  replace kr := G.has kr
  replace kg1 := G.has kg1
  replace kg2 := G.has kg2
  replace kg3 := G.has kg3
  replace kg4 := G.has kg4
  replace GG := GG.tg G
  clear G
  refine wpList_nil (zh (jc (wp_seq (wp_region_lit (sv 203 (.agg (c62 false (!op) Sl.nil false Sl.nil)) (jf 62 _ rfl g4 0 5 rfl 62 _ kg4 _ Try.underlying62 rfl si62 _) ?_)))))
  refine jn rfl rfl 62 _ _ rfl g3 0 rfl (.agg (c62 false (!op) Sl.nil false Sl.nil)) rfl 62 _ kg3 (c62 false (!op) Sl.nil false Sl.nil) rfl (by kernel_rfl) (nlB rfl) (by kernel_rfl) (c62 false (!op) Sl.nil false Sl.nil) (by kernel_rfl) ?_
  intro w13 St
  replace kr := St.has (by omega) kr
  replace kg1 := St.has (by omega) kg1
  replace kg2 := St.has (by omega) kg2
  replace kg4 := St.has (by omega) kg4
  replace GG := GG.st St (.inl bg3)
  replace kg3 := St.new
  clear St
  refine wpList_nil (jc (wp_ret ?_))
  refine bodyPost_ret (results_cell_row Try.results22 _ _ g3 62 _ (0, 0) _ rfl kg3 Try.underlying62 rfl (by kernel_rfl)) rfl ?_
  exact ⟨_, (r :: blk so), (txb u), rfl, ⟨none, 0, none, 0, [], rfl, OB.nil _ _ _ _, rfl, LF.nil _ _⟩, ⟨B, so, sc, u, H.keep1 GG kr, hk, rfl, rfl, rfl⟩, GG.p1, Fresh.refl _ _, Fresh.refl _ _⟩
theorem rack_ok (w : World) (r B : Nat) (id : Nat → Nat) (op : Bool) (mi mn pi pn : Int) (oth : Nat → Nat) (so : Option Addr) (sc : Nat) (u : List RV) (k c : Nat) (H : WX 34 (c34 id true op mi mn pi pn oth ⟨so, u.length, sc⟩ ((k : Nat) : Int) ((c : Nat) : Int)) w r B so sc u) (hk : k ≤ u.length) (hu : u.length ≤ 100000) (hc : c ≤ 100000) (f : Fr) (ni nn : Int) (hf1 : ¬ f.kind = 1) (hf2 : ¬ f.kind = 2) (hf3 : f.kind = 3) (ht : (decide (f.ti = mi) && decide (f.tn = mn)) = true) (hp : (decide (f.fi = pi) && decide (f.fn = pn)) = true) (m : Nat) (hm1 : 1 ≤ m) (hm : k + m ≤ u.length) (hn : f.n = ((k + m : Nat) : Int)) : Calls Try.prog 22 #[pK r 0, .agg (frA f), .agg (c29 ni nn)] w (HearD w r id (r :: blk so) (txb u) (⟨true, true, mi, mn, pi, pn, oth, (k + m), (((u.drop k).map (·.l)).drop m), c⟩, ⟨false, (!op), [], false, []⟩)) := by
  refine jp Try.func22 rfl Try.ntmps22 [pK r 0, .agg (frA f), .agg (c29 ni nn)] ?_
  intro U h; simp only [List.length_cons, List.length_nil, List.cons_append, List.nil_append, Nat.reduceAdd, Nat.reduceSub, List.reduceReplicate] at h; subst h
  have GG := GroS.refl [r] w
  have kr := H.box
  have hpl := H.lt
  have hBl := H.bl
  refine wp_seq (wp_region_lit ?_)
  refine jB 4 rfl rfl 46 _ rfl _ rfl (frA f) rfl ?_
  intro w1 g1 G eg1 kg1
  have bg1 := jl GG eg1
  have drg1 := je kr eg1
  replace kr := G.has kr
  replace GG := GG.tg G
  clear G eg1
  refine jB 5 rfl rfl 29 _ rfl _ rfl (c29 ni nn) rfl ?_
  intro w2 g2 G eg2 kg2
  have bg2 := jl GG eg2
  have drg2 := je kr eg2
  have dg1g2 := je kg1 eg2
  replace kr := G.has kr
  replace kg1 := G.has kg1
  replace GG := GG.tg G
  clear G eg2
  refine jq 6 rfl rfl 62 rfl _ zv62 _ rfl ?_
  intro w3 g3 G eg3 kg3
  have bg3 := jl GG eg3
  have drg3 := je kr eg3
  have dg1g3 := je kg1 eg3
  have dg2g3 := je kg2 eg3
  replace kr := G.has kr
  replace kg1 := G.has kg1
  replace kg2 := G.has kg2
  replace GG := GG.tg G
  clear G eg3
  refine wpList_nil (jc (wp_seq (wp_region_lit ?_)))
  refine jq 7 rfl rfl 62 rfl _ zv62 _ rfl ?_
  intro w4 g4 G eg4 kg4
  have bg4 := jl GG eg4
  have drg4 := je kr eg4
  have dg1g4 := je kg1 eg4
  have dg2g4 := je kg2 eg4
  have dg3g4 := je kg3 eg4
  replace kr := G.has kr
  replace kg1 := G.has kg1
  replace kg2 := G.has kg2
  replace kg3 := G.has kg3
  replace GG := GG.tg G
  clear G eg4
  refine wpList_nil (jc (wp_seq (wp_seq (wp_region_lit (mv 8 (pK r 0) (sv 9 (pK r 0) (jj _ rfl _ rfl) (sv 10 (pK r 16) (jd 34 _ 1 rfl _ _ rfl _) (sv 11 (vTr) (jh 4 _ rfl r 16 rfl 34 _ kr (na4 _) _ rfl) (sv 12 (vFa) (jE _ _ rfl true rfl) ?_)))))))))
  refine nr ?_; intro U h; simp only [z0, z1] at h; subst h
  refine wpList_nil (jc (wp_cond_false rfl (wp_skip (jc (wp_seq (wp_seq (wp_region_lit (sv 14 (pK g1 0) (jd 46 _ 0 rfl _ _ rfl _) (sv 15 (iK f.kind) (jh 3 _ rfl g1 0 rfl 46 _ kg1 (na3 _) _ rfl) (wpList_nil (jc (wp_block (wp_seq (wp_region_lit (sv 17 (vFa) (jo 3 .i64 _ _ _ rfl Try.underlying3 f.kind 1 rfl rfl false (decide_eq_false hf1) _) ?_)))))))))))))))
  refine mv 16 (vFa) (wpList_nil (jc (wp_cond_false rfl (wp_seq (wp_region_lit (sv 115 (vFa) (jo 3 .i64 _ _ _ rfl Try.underlying3 f.kind 2 rfl rfl false (decide_eq_false hf2) _) (mv 114 (vFa) (wpList_nil (jc (wp_cond_false rfl (wp_seq (wp_region_lit (sv 171 (vTr) (jo 3 .i64 _ _ _ rfl Try.underlying3 f.kind 3 rfl rfl true (decide_eq_true hf3) _) (mv 170 (vTr) ?_))))))))))))))
  refine wpList_nil (jc (wp_cond_true rfl (wp_seq ?_)))
  refine jk (A := ?Ax52) 14 [(0, 172), (1, 173), (2, 174), (3, 175), (4, 176), (5, 177), (6, 178), (7, 179), (8, 180), (9, 181), (10, 182), (11, 183), (12, 184), (13, 185)] [.val (pK g1 54), .val (.agg (c29 f.ti f.tn)), .val (pK r 0), .val (pK r 0), .val (pK r 18), .val (.agg (c29 mi mn)), .val (vTr), .val (vTr), .val (pK g1 52), .val (.agg (c29 f.fi f.fn)), .val (pK r 0), .val (pK r 0), .val (pK r 20), .val (.agg (c29 pi pn))] follows (by kernel_rfl) rfl ?hAx52 (ja ?o0x52 (ja ?o1x52 (ja ?o2x52 (ja ?o3x52 (ja ?o4x52 (ja ?o5x52 (ja ?o6x52 (ja ?o7x52 (ja ?o8x52 (ja ?o9x52 (ja ?o10x52 (ja ?o11x52 (ja ?o12x52 (ja ?o13x52 jw)))))))))))))) ?restx52
  case hAx52 =>
    intro ptrs
    simp only [full, foldSlots, filledE, postE, List.foldl_cons, List.foldl_nil, List.getD_cons_zero, List.getD_cons_succ, jr, List.set_cons_zero, List.set_cons_succ]
    exact rfl
  case o0x52 => exact fun _ _ hw _ => jb (v := pK g1 54) rfl (jd 46 _ 7 rfl _ _ rfl _)
  case o1x52 => exact fun _ _ hw _ => jb (v := .agg (c29 f.ti f.tn)) rfl (jf 29 _ rfl g1 54 2 rfl 46 _ (hw.has kg1) _ Try.underlying29 rfl si29 _)
  case o2x52 => exact fun _ _ _ _ => jg (v := pK r 0) _ rfl rfl rfl
  case o3x52 => exact fun _ _ hw _ => jb (v := pK r 0) rfl (jj _ rfl _ rfl)
  case o4x52 => exact fun _ _ hw _ => jb (v := pK r 18) rfl (jd 34 _ 3 rfl _ _ rfl _)
  case o5x52 => exact fun _ _ hw _ => jb (v := .agg (c29 mi mn)) rfl (jf 29 _ rfl r 18 2 rfl 34 _ (hw.has kr) _ Try.underlying29 rfl si29 _)
  case o6x52 => exact fun _ _ hw _ => jb (v := vTr) rfl (jH _ _ _ rfl f.ti f.tn mi mn rfl rfl true (ht) _)
  case o7x52 => exact fun _ _ _ _ => jg (v := vTr) _ rfl rfl rfl
  case o8x52 => exact fun _ _ hw _ => jb (v := pK g1 52) rfl (jd 46 _ 6 rfl _ _ rfl _)
  case o9x52 => exact fun _ _ hw _ => jb (v := .agg (c29 f.fi f.fn)) rfl (jf 29 _ rfl g1 52 2 rfl 46 _ (hw.has kg1) _ Try.underlying29 rfl si29 _)
  case o10x52 => exact fun _ _ _ _ => jg (v := pK r 0) _ rfl rfl rfl
  case o11x52 => exact fun _ _ hw _ => jb (v := pK r 0) rfl (jj _ rfl _ rfl)
  case o12x52 => exact fun _ _ hw _ => jb (v := pK r 20) rfl (jd 34 _ 4 rfl _ _ rfl _)
  case o13x52 => exact fun _ _ hw _ => jb (v := .agg (c29 pi pn)) rfl (jf 29 _ rfl r 20 2 rfl 34 _ (hw.has kr) _ Try.underlying29 rfl si29 _)
  intro ptrs w5 GD hxE
  simp only [List.drop_succ_cons, List.drop_zero]
  replace kr := GD.has kr
  replace kg1 := GD.has kg1
  replace kg2 := GD.has kg2
  replace kg3 := GD.has kg3
  replace kg4 := GD.has kg4
  replace GG := GG.drew.tg GD
  clear GD
  refine jI 186 rfl rfl (vTr) (jH _ _ _ rfl f.fi f.fn pi pn rfl rfl true (hp) _) ?_
  refine nr ?_; intro U h; simp only [z0, z1] at h; subst h
  refine mv 187 (vTr) (wpList_nil (jc (wp_cond_true rfl (wp_seq (wp_region_lit (mv 188 (pK r 0) (sv 189 (pK r 0) (jj _ rfl _ rfl) (sv 190 (pK r 17) (jd 34 _ 2 rfl _ _ rfl _) (sv 191 (.bool op) (jh 4 _ rfl r 17 rfl 34 _ kr (na4 _) _ rfl) ?_)))))))))
  refine sv 192 (.bool (!op)) (jE _ _ rfl op rfl) (sv 193 (pK g4 1) (jd 62 _ 1 rfl _ _ rfl _) ?_)
  refine jn rfl rfl 4 _ _ rfl g4 1 rfl (.bool (!op)) rfl 62 _ kg4 #[.bool (!op)] rfl (by kernel_rfl) (nlB rfl) (by kernel_rfl) (c62 false (!op) Sl.nil false Sl.nil) (by kernel_rfl) ?_
  intro w7 St
  replace kr := St.has (by omega) kr
  replace kg1 := St.has (by omega) kg1
  replace kg2 := St.has (by omega) kg2
  replace kg3 := St.has (by omega) kg3
  replace GG := GG.st St (.inl bg4)
  replace kg4 := St.new
  clear St
  refine wpList_nil (jc (wp_seq (wp_region_lit (mv 194 (pK r 0) (sv 195 (pK r 0) (jj _ rfl _ rfl) ?_)))))
  refine nr ?_; intro U h; simp only [z0, z1] at h; subst h
  refine sv 196 (pK r 17) (jd 34 _ 2 rfl _ _ rfl _) ?_
  refine jn rfl rfl 4 _ _ rfl r 17 rfl (vTr) rfl 34 _ kr #[vTr] rfl (by kernel_rfl) (nlB rfl) (by kernel_rfl) (c34 id true true mi mn pi pn oth ⟨so, u.length, sc⟩ ((k : Nat) : Int) ((c : Nat) : Int)) (by kernel_rfl) ?_
  intro w9 St
  replace kg1 := St.has (by omega) kg1
  replace kg2 := St.has (by omega) kg2
  replace kg3 := St.has (by omega) kg3
  replace kg4 := St.has (by omega) kg4
  replace GG := GG.st St (.inr (by simp))
  replace kr := St.new
  clear St
  refine wpList_nil (jc ?_)
  refine jk (A := ?Ax53) 5 [(0, 197), (1, 198), (2, 199), (3, 200), (4, 201)] [.val (pK r 0), .val (pK r 0), .val (pK r 38), .val (pK g1 51), .val (iK f.n)] follows (by kernel_rfl) rfl ?hAx53 (ja ?o0x53 (ja ?o1x53 (ja ?o2x53 (ja ?o3x53 (ja ?o4x53 jw))))) ?restx53
  case hAx53 =>
    intro ptrs
    simp only [full, foldSlots, filledE, postE, List.foldl_cons, List.foldl_nil, List.getD_cons_zero, List.getD_cons_succ, jr, List.set_cons_zero, List.set_cons_succ]
    exact rfl
  case o0x53 => exact fun _ _ _ _ => jg (v := pK r 0) _ rfl rfl rfl
  case o1x53 => exact fun _ _ hw _ => jb (v := pK r 0) rfl (jj _ rfl _ rfl)
  case o2x53 => exact fun _ _ hw _ => jb (v := pK r 38) rfl (jd 34 _ 6 rfl _ _ rfl _)
  case o3x53 => exact fun _ _ hw _ => jb (v := pK g1 51) rfl (jd 46 _ 5 rfl _ _ rfl _)
  case o4x53 => exact fun _ _ hw _ => jb (v := iK f.n) rfl (jh 2 _ rfl g1 51 rfl 46 _ (hw.has kg1) (na2 _) _ rfl)
  intro ptrs w10 GD hxE
  simp only [List.drop_succ_cons, List.drop_zero]
  replace kr := GD.has kr
  replace kg1 := GD.has kg1
  replace kg2 := GD.has kg2
  replace kg3 := GD.has kg3
  replace kg4 := GD.has kg4
  replace GG := GG.drew.tg GD
  clear GD
  refine jD 202 rfl rfl _ 48 Try.call48 rfl rfl _ rfl [pK r 38, iK f.n] rfl (Zx _ r B id true true mi mn pi pn oth so sc u k c (H.keep1 GG kr) hk hu hc f.n m hm1 hm hn) (fun _ _ ⟨he, _⟩ => ⟨_, he⟩) ?_
  rintro v w11 ⟨he, G, HX⟩
  cases he
  replace kg1 := G.has kg1 (by simp; omega)
  replace kg2 := G.has kg2 (by simp; omega)
  replace kg3 := G.has kg3 (by simp; omega)
  replace kg4 := G.has kg4 (by simp; omega)
  replace GG := GG.trans G
  clear kr G
  have kr := HX.box
  clear HX
  refine wpList_nil (zh (jc (wp_seq (wp_region_lit (sv 203 (.agg (c62 false (!op) Sl.nil false Sl.nil)) (jf 62 _ rfl g4 0 5 rfl 62 _ kg4 _ Try.underlying62 rfl si62 _) ?_)))))
  refine jn rfl rfl 62 _ _ rfl g3 0 rfl (.agg (c62 false (!op) Sl.nil false Sl.nil)) rfl 62 _ kg3 (c62 false (!op) Sl.nil false Sl.nil) rfl (by kernel_rfl) (nlB rfl) (by kernel_rfl) (c62 false (!op) Sl.nil false Sl.nil) (by kernel_rfl) ?_
  intro w13 St
  replace kr := St.has (by omega) kr
  replace kg1 := St.has (by omega) kg1
  replace kg2 := St.has (by omega) kg2
  replace kg4 := St.has (by omega) kg4
  replace GG := GG.st St (.inl bg3)
  replace kg3 := St.new
  clear St
  refine wpList_nil (jc (wp_ret ?_))
  refine bodyPost_ret (results_cell_row Try.results22 _ _ g3 62 _ (0, 0) _ rfl kg3 Try.underlying62 rfl (by kernel_rfl)) rfl ?_
  exact ⟨_, (r :: blk so), (txb u), rfl, ⟨none, 0, none, 0, [], rfl, OB.nil _ _ _ _, rfl, LF.nil _ _⟩, ⟨B, so, sc, u, H.keep1 GG kr, hm, (by rw [List.map_drop, List.map_drop, List.drop_drop]), rfl, rfl⟩, GG.p1, Fresh.refl _ _, Fresh.refl _ _⟩
end Go.Proofs.Ytlfanecaglbomaa
