/- The document's end: Hear. -/
import Derived.Test.YtlfanecaglbomaaCH10
namespace Go.Proofs.Ytlfanecaglbomaa
set_option maxRecDepth 100000
set_option maxHeartbeats 4000000
open Go.RowKit
section
variable {ops : Array Oper} {rest : List Oper} {o : Oper} {T : List Value} {ds : List Deferred} {w : World} {Q : Exit → Act → World → Prop}
theorem ZX (dst : Nat) (hd : o.dst = some dst) (hgd : o.guard = none) (s y : Operand) (ho : o.op = .call { callee := .builtin .append, args := #[s, y], argTypes := #[36, 36] }) (M g : Nat) (hs : (⟨T.toArray, ds⟩ : Act).eval s = .slice (some ⟨g, 0, none⟩) 0 0) (hk : w.heap[g]? = some (.cells #[] 5 (0, 0))) (hg : M ≤ g) (hM : M ≤ w.heap.size) {ao : Option Addr} {cap : Nat} {l : List Nat} (hy : (⟨T.toArray, ds⟩ : Act).eval y = .slice ao l.length cap) (H : NC w .u8 ao cap l) (hl : l.length ≤ 140737488355000)
    (h : ∀ ao2 cap2 w', Gro w w' → OB w' 5 .u8 M ao2 cap2 l → wpList Try.prog ops Q rest ⟨(T.set dst (.slice ao2 l.length cap2)).toArray, ds⟩ w') : wpList Try.prog ops Q (o :: rest) ⟨T.toArray, ds⟩ w := by
  obtain ⟨ao2, cap2, w', hr, h1, h2⟩ := uV o.type w hk hg hM H hl
  refine wpList_plain hgd fun K hK => ?_
  unfold Oper.wp
  rw [yX s y ho hs hy hr, Oper.upon_value, hd, zd]
  exact hK _ _ (h ao2 cap2 w' h2 h1)
end
def DX (w : World) (r : Nat) (id : Nat → Nat) (x : ES) (mu tb : List Nat) : Prop := ∃ (B : Nat) (so : Option Addr) (sc : Nat) (u : List RV), WX 34 (c34 id x.up x.op x.mi x.mn x.pi x.pn x.oth ⟨so, u.length, sc⟩ ((x.k : Nat) : Int) ((x.c : Nat) : Int)) w r B so sc u ∧ x.k ≤ u.length ∧ (u.drop x.k).map (·.l) = x.q ∧ mu = r :: blk so ∧ tb = txb u
def HearD (w : World) (r : Nat) (id : Nat → Nat) (mu tb : List Nat) (z : ES × PT) (e : Ending) (w' : World) : Prop := ∃ v mu' tb', e = .returned v ∧ TV w' z.2 v ∧ DX w' r id z.1 mu' tb' ∧ GroS mu w w' ∧ Fresh w mu mu' ∧ Fresh w tb tb'
theorem Fresh.rnew {w : World} {r : Nat} {S : List Nat} : Fresh w (r :: S) (r :: blk Option.none) := fun k hk => by
  rcases List.mem_cons.1 hk with rfl | hk
  · exact .inl List.mem_cons_self
  · cases hk
theorem JS {w : World} {m : PF} {ao : Option Addr} {cap : Nat} (h : OB w 5 .u8 0 ao cap m.tx) : FV w m (pfr m Sl.nil Sl.nil Sl.nil ⟨ao, m.tx.length, cap⟩) := ⟨Sl.nil, Sl.nil, Sl.nil, ao, cap, rfl, NoR.nil, NoR.nil, NoR.nil, h⟩
theorem zQ (w : World) (k : Int) (a : Nat → Nat) (fi fn ti tn n : Int) : FV w ⟨k, a, fi, fn, ti, tn, n, []⟩ (pfr ⟨k, a, fi, fn, ti, tn, n, []⟩ Sl.nil Sl.nil Sl.nil Sl.nil) := JS (OB.nil _ _ _ _)
theorem JG (w : World) (r B : Nat) (id : Nat → Nat) (op : Bool) (mi mn pi pn : Int) (oth : Nat → Nat) (so : Option Addr) (sc : Nat) (u : List RV) (k c : Nat) (H : WX 34 (c34 id false op mi mn pi pn oth ⟨so, u.length, sc⟩ ((k : Nat) : Int) ((c : Nat) : Int)) w r B so sc u) (hk : k ≤ u.length) (f : Fr) (ni nn : Int) : Calls Try.prog 22 #[pK r 0, .agg (frA f), .agg (c29 ni nn)] w (HearD w r id (r :: blk so) (txb u) (⟨false, op, mi, mn, pi, pn, oth, k, ((u.drop k).map (·.l)), c⟩, PT.no)) := by
  refine jp Try.func22 rfl Try.ntmps22 [pK r 0, .agg (frA f), .agg (c29 ni nn)] ?_
  intro U h; simp only [List.length_cons, List.length_nil, List.cons_append, List.nil_append, Nat.reduceAdd, Nat.reduceSub, List.reduceReplicate] at h; subst h
  have GG := GroS.refl [r] w
  have kr := H.box
  have hpl := H.lt
  have hBl := H.bl
  refine wp_seq (wp_region_lit ?_)
  refine jB 4 rfl rfl 46 _ rfl _ rfl (frA f) rfl ?_
  intro w1 g1 G eg1 kg1
  have bg1 := jl GG eg1
  have drg1 := je kr eg1
  replace kr := G.has kr
  replace GG := GG.tg G
  clear G eg1
  refine jB 5 rfl rfl 29 _ rfl _ rfl (c29 ni nn) rfl ?_
  intro w2 g2 G eg2 kg2
  have bg2 := jl GG eg2
  have drg2 := je kr eg2
  have dg1g2 := je kg1 eg2
  replace kr := G.has kr
  replace kg1 := G.has kg1
  replace GG := GG.tg G
  clear G eg2
  refine jq 6 rfl rfl 62 rfl _ zv62 _ rfl ?_
  intro w3 g3 G eg3 kg3
  have bg3 := jl GG eg3
  have drg3 := je kr eg3
  have dg1g3 := je kg1 eg3
  have dg2g3 := je kg2 eg3
  replace kr := G.has kr
  replace kg1 := G.has kg1
  replace kg2 := G.has kg2
  replace GG := GG.tg G
  clear G eg3
  refine wpList_nil (jc (wp_seq (wp_region_lit ?_)))
  refine jq 7 rfl rfl 62 rfl _ zv62 _ rfl ?_
  intro w4 g4 G eg4 kg4
  have bg4 := jl GG eg4
  have drg4 := je kr eg4
  have dg1g4 := je kg1 eg4
  have dg2g4 := je kg2 eg4
  have dg3g4 := je kg3 eg4
  replace kr := G.has kr
  replace kg1 := G.has kg1
  replace kg2 := G.has kg2
  replace kg3 := G.has kg3
  replace GG := GG.tg G
  clear G eg4
  refine wpList_nil (jc (wp_seq (wp_seq (wp_region_lit (mv 8 (pK r 0) ?_)))))
  refine nr ?_; intro U h; simp only [z0, z1] at h; subst h
  refine sv 9 (pK r 0) (jj _ rfl _ rfl) (sv 10 (pK r 16) (jd 34 _ 1 rfl _ _ rfl _) (sv 11 (vFa) (jh 4 _ rfl r 16 rfl 34 _ kr (na4 _) _ rfl) (sv 12 (vTr) (jE _ _ rfl false rfl) (wpList_nil (jc (wp_cond_true rfl (wp_seq (wp_region_lit (sv 13 (.agg (c62 false false Sl.nil false Sl.nil)) (jf 62 _ rfl g4 0 5 rfl 62 _ kg4 _ Try.underlying62 rfl si62 _) ?_)))))))))
  refine nr ?_; intro U h; simp only [z0, z1] at h; subst h
  refine jn rfl rfl 62 _ _ rfl g3 0 rfl (.agg (c62 false false Sl.nil false Sl.nil)) rfl 62 _ kg3 (c62 false false Sl.nil false Sl.nil) rfl (by kernel_rfl) (nlB rfl) (by kernel_rfl) (c62 false false Sl.nil false Sl.nil) (by kernel_rfl) ?_
  intro w6 St
  replace kr := St.has (by omega) kr
  replace kg1 := St.has (by omega) kg1
  replace kg2 := St.has (by omega) kg2
  replace kg4 := St.has (by omega) kg4
  replace GG := GG.st St (.inl bg3)
  replace kg3 := St.new
  clear St
  refine wpList_nil (jc (wp_ret (jC ?_)))
  refine bodyPost_ret (results_cell_row Try.results22 _ _ g3 62 _ (0, 0) _ rfl kg3 Try.underlying62 rfl (by kernel_rfl)) rfl ?_
  exact ⟨_, (r :: blk so), (txb u), rfl, TV.no _, ⟨B, so, sc, u, H.keep1 GG kr, hk, rfl, rfl, rfl⟩, GG.p1, Fresh.refl _ _, Fresh.refl _ _⟩
theorem Jb (w : World) (r B : Nat) (id : Nat → Nat) (op : Bool) (mi mn pi pn : Int) (oth : Nat → Nat) (so : Option Addr) (sc : Nat) (u : List RV) (k c : Nat) (H : WX 34 (c34 id true op mi mn pi pn oth ⟨so, u.length, sc⟩ ((k : Nat) : Int) ((c : Nat) : Int)) w r B so sc u) (hk : k ≤ u.length) (f : Fr) (ni nn : Int) (hf1 : ¬ f.kind = 1) (hf2 : ¬ f.kind = 2) (hf3 : ¬ f.kind = 3) : Calls Try.prog 22 #[pK r 0, .agg (frA f), .agg (c29 ni nn)] w (HearD w r id (r :: blk so) (txb u) (⟨true, op, mi, mn, pi, pn, oth, k, ((u.drop k).map (·.l)), c⟩, PT.no)) := by
  refine jp Try.func22 rfl Try.ntmps22 [pK r 0, .agg (frA f), .agg (c29 ni nn)] ?_
  intro U h; simp only [List.length_cons, List.length_nil, List.cons_append, List.nil_append, Nat.reduceAdd, Nat.reduceSub, List.reduceReplicate] at h; subst h
  have GG := GroS.refl [r] w
  have kr := H.box
  have hpl := H.lt
  have hBl := H.bl
  refine wp_seq (wp_region_lit ?_)
  refine jB 4 rfl rfl 46 _ rfl _ rfl (frA f) rfl ?_
  intro w1 g1 G eg1 kg1
  have bg1 := jl GG eg1
  have drg1 := je kr eg1
  replace kr := G.has kr
  replace GG := GG.tg G
  clear G eg1
  refine jB 5 rfl rfl 29 _ rfl _ rfl (c29 ni nn) rfl ?_
  intro w2 g2 G eg2 kg2
  have bg2 := jl GG eg2
  have drg2 := je kr eg2
  have dg1g2 := je kg1 eg2
  replace kr := G.has kr
  replace kg1 := G.has kg1
  replace GG := GG.tg G
  clear G eg2
  refine jq 6 rfl rfl 62 rfl _ zv62 _ rfl ?_
  intro w3 g3 G eg3 kg3
  have bg3 := jl GG eg3
  have drg3 := je kr eg3
  have dg1g3 := je kg1 eg3
  have dg2g3 := je kg2 eg3
  replace kr := G.has kr
  replace kg1 := G.has kg1
  replace kg2 := G.has kg2
  replace GG := GG.tg G
  clear G eg3
  refine wpList_nil (jc (wp_seq (wp_region_lit ?_)))
  refine jq 7 rfl rfl 62 rfl _ zv62 _ rfl ?_
  intro w4 g4 G eg4 kg4
  have bg4 := jl GG eg4
  have drg4 := je kr eg4
  have dg1g4 := je kg1 eg4
  have dg2g4 := je kg2 eg4
  have dg3g4 := je kg3 eg4
  replace kr := G.has kr
  replace kg1 := G.has kg1
  replace kg2 := G.has kg2
  replace kg3 := G.has kg3
  replace GG := GG.tg G
  clear G eg4
  refine wpList_nil (jc (wp_seq (wp_seq (wp_region_lit (mv 8 (pK r 0) ?_)))))
  refine nr ?_; intro U h; simp only [z0, z1] at h; subst h
  refine sv 9 (pK r 0) (jj _ rfl _ rfl) (sv 10 (pK r 16) (jd 34 _ 1 rfl _ _ rfl _) (sv 11 (vTr) (jh 4 _ rfl r 16 rfl 34 _ kr (na4 _) _ rfl) (sv 12 (vFa) (jE _ _ rfl true rfl) (wpList_nil (jc (wp_cond_false rfl (wp_skip (jc (wp_seq (wp_seq (wp_region_lit (sv 14 (pK g1 0) (jd 46 _ 0 rfl _ _ rfl _) ?_))))))))))))
  refine nr ?_; intro U h; simp only [z0, z1] at h; subst h
  refine sv 15 (iK f.kind) (jh 3 _ rfl g1 0 rfl 46 _ kg1 (na3 _) _ rfl) (wpList_nil (jc (wp_block (wp_seq (wp_region_lit (sv 17 (vFa) (jo 3 .i64 _ _ _ rfl Try.underlying3 f.kind 1 rfl rfl false (decide_eq_false hf1) _) (mv 16 (vFa) (wpList_nil (jc (wp_cond_false rfl (wp_seq (wp_region_lit (sv 115 (vFa) (jo 3 .i64 _ _ _ rfl Try.underlying3 f.kind 2 rfl rfl false (decide_eq_false hf2) _) (mv 114 (vFa) ?_))))))))))))))
  refine nr ?_; intro U h; simp only [z0, z1] at h; subst h
  refine wpList_nil (jc (wp_cond_false rfl (wp_seq (wp_region_lit (sv 171 (vFa) (jo 3 .i64 _ _ _ rfl Try.underlying3 f.kind 3 rfl rfl false (decide_eq_false hf3) _) (mv 170 (vFa) (wpList_nil (jc (wp_cond_false rfl (wp_skip (zh (jc (wp_seq (wp_region_lit (sv 203 (.agg (c62 false false Sl.nil false Sl.nil)) (jf 62 _ rfl g4 0 5 rfl 62 _ kg4 _ Try.underlying62 rfl si62 _) ?_)))))))))))))))
  refine jn rfl rfl 62 _ _ rfl g3 0 rfl (.agg (c62 false false Sl.nil false Sl.nil)) rfl 62 _ kg3 (c62 false false Sl.nil false Sl.nil) rfl (by kernel_rfl) (nlB rfl) (by kernel_rfl) (c62 false false Sl.nil false Sl.nil) (by kernel_rfl) ?_
  intro w6 St
  replace kr := St.has (by omega) kr
  replace kg1 := St.has (by omega) kg1
  replace kg2 := St.has (by omega) kg2
  replace kg4 := St.has (by omega) kg4
  replace GG := GG.st St (.inl bg3)
  replace kg3 := St.new
  clear St
  refine wpList_nil (jc (wp_ret ?_))
  refine bodyPost_ret (results_cell_row Try.results22 _ _ g3 62 _ (0, 0) _ rfl kg3 Try.underlying62 rfl (by kernel_rfl)) rfl ?_
  exact ⟨_, (r :: blk so), (txb u), rfl, TV.no _, ⟨B, so, sc, u, H.keep1 GG kr, hk, rfl, rfl, rfl⟩, GG.p1, Fresh.refl _ _, Fresh.refl _ _⟩
theorem uY (w : World) (r B : Nat) (id : Nat → Nat) (op : Bool) (mi mn pi pn : Int) (oth : Nat → Nat) (so : Option Addr) (sc : Nat) (u : List RV) (k c : Nat) (H : WX 34 (c34 id true op mi mn pi pn oth ⟨so, u.length, sc⟩ ((k : Nat) : Int) ((c : Nat) : Int)) w r B so sc u) (hk : k ≤ u.length) (f : Fr) (ni nn : Int) (hf1 : f.kind = 1) (hl : lessN f.fi f.fn pi pn = true) : Calls Try.prog 22 #[pK r 0, .agg (frA f), .agg (c29 ni nn)] w (HearD w r id (r :: blk so) (txb u) (⟨true, op, mi, mn, pi, pn, oth, k, ((u.drop k).map (·.l)), c⟩, PT.no)) := by
  refine jp Try.func22 rfl Try.ntmps22 [pK r 0, .agg (frA f), .agg (c29 ni nn)] ?_
  intro U h; simp only [List.length_cons, List.length_nil, List.cons_append, List.nil_append, Nat.reduceAdd, Nat.reduceSub, List.reduceReplicate] at h; subst h
  have GG := GroS.refl [r] w
  have kr := H.box
  have hpl := H.lt
  have hBl := H.bl
  refine wp_seq (wp_region_lit ?_)
  refine jB 4 rfl rfl 46 _ rfl _ rfl (frA f) rfl ?_
  intro w1 g1 G eg1 kg1
  have bg1 := jl GG eg1
  have drg1 := je kr eg1
  replace kr := G.has kr
  replace GG := GG.tg G
  clear G eg1
  refine jB 5 rfl rfl 29 _ rfl _ rfl (c29 ni nn) rfl ?_
  intro w2 g2 G eg2 kg2
  have bg2 := jl GG eg2
  have drg2 := je kr eg2
  have dg1g2 := je kg1 eg2
  replace kr := G.has kr
  replace kg1 := G.has kg1
  replace GG := GG.tg G
  clear G eg2
  refine jq 6 rfl rfl 62 rfl _ zv62 _ rfl ?_
  intro w3 g3 G eg3 kg3
  have bg3 := jl GG eg3
  have drg3 := je kr eg3
  have dg1g3 := je kg1 eg3
  have dg2g3 := je kg2 eg3
  replace kr := G.has kr
  replace kg1 := G.has kg1
  replace kg2 := G.has kg2
  replace GG := GG.tg G
  clear G eg3
  refine wpList_nil (jc (wp_seq (wp_region_lit ?_)))
  refine jq 7 rfl rfl 62 rfl _ zv62 _ rfl ?_
  intro w4 g4 G eg4 kg4
  have bg4 := jl GG eg4
  have drg4 := je kr eg4
  have dg1g4 := je kg1 eg4
  have dg2g4 := je kg2 eg4
  have dg3g4 := je kg3 eg4
  replace kr := G.has kr
  replace kg1 := G.has kg1
  replace kg2 := G.has kg2
  replace kg3 := G.has kg3
  replace GG := GG.tg G
  clear G eg4
  refine wpList_nil (jc (wp_seq (wp_seq (wp_region_lit (mv 8 (pK r 0) ?_)))))
  refine nr ?_; intro U h; simp only [z0, z1] at h; subst h
  refine sv 9 (pK r 0) (jj _ rfl _ rfl) (sv 10 (pK r 16) (jd 34 _ 1 rfl _ _ rfl _) (sv 11 (vTr) (jh 4 _ rfl r 16 rfl 34 _ kr (na4 _) _ rfl) (sv 12 (vFa) (jE _ _ rfl true rfl) (wpList_nil (jc (wp_cond_false rfl (wp_skip (jc (wp_seq (wp_seq (wp_region_lit (sv 14 (pK g1 0) (jd 46 _ 0 rfl _ _ rfl _) ?_))))))))))))
  refine nr ?_; intro U h; simp only [z0, z1] at h; subst h
  refine sv 15 (iK f.kind) (jh 3 _ rfl g1 0 rfl 46 _ kg1 (na3 _) _ rfl) (wpList_nil (jc (wp_block (wp_seq (wp_region_lit (sv 17 (vTr) (jo 3 .i64 _ _ _ rfl Try.underlying3 f.kind 1 rfl rfl true (decide_eq_true hf1) _) (mv 16 (vTr) (wpList_nil (jc (wp_cond_true rfl (wp_seq (wp_seq ?_))))))))))))
  refine jk (A := ?Ax1) 11 [(0, 18), (1, 19), (2, 20), (3, 21), (4, 22), (5, 23), (6, 24), (7, 25), (8, 26), (9, 27), (10, 28)] [.val (pK g1 52), .val (.agg (c29 f.fi f.fn)), .val (pK r 0), .val (pK r 0), .val (pK r 20), .val (.agg (c29 pi pn)), .val (vTr), .val (vTr), .val undef, .val undef, .val undef] follows (by kernel_rfl) rfl ?hAx1 (ja ?o0x1 (ja ?o1x1 (ja ?o2x1 (ja ?o3x1 (ja ?o4x1 (ja ?o5x1 (ja ?o6x1 (ja ?o7x1 (ja ?o8x1 (ja ?o9x1 (ja ?o10x1 jw))))))))))) ?restx1
  case hAx1 =>
    intro ptrs
    simp only [full, foldSlots, filledE, postE, List.foldl_cons, List.foldl_nil, List.getD_cons_zero, List.getD_cons_succ, jr, List.set_cons_zero, List.set_cons_succ]
    exact rfl
  case o0x1 => exact fun _ _ hw _ => jb (v := pK g1 52) rfl (jd 46 _ 6 rfl _ _ rfl _)
  case o1x1 => exact fun _ _ hw _ => jb (v := .agg (c29 f.fi f.fn)) rfl (jf 29 _ rfl g1 52 2 rfl 46 _ (hw.has kg1) _ Try.underlying29 rfl si29 _)
  case o2x1 => exact fun _ _ _ _ => jg (v := pK r 0) _ rfl rfl rfl
  case o3x1 => exact fun _ _ hw _ => jb (v := pK r 0) rfl (jj _ rfl _ rfl)
  case o4x1 => exact fun _ _ hw _ => jb (v := pK r 20) rfl (jd 34 _ 4 rfl _ _ rfl _)
  case o5x1 => exact fun _ _ hw _ => jb (v := .agg (c29 pi pn)) rfl (jf 29 _ rfl r 20 2 rfl 34 _ (hw.has kr) _ Try.underlying29 rfl si29 _)
  case o6x1 => exact fun _ _ hw _ => jT (.val (vTr)) rfl _ 46 Try.call46 rfl rfl _ rfl [.agg (c29 f.fi f.fn), .agg (c29 pi pn)] rfl (((show lessN f.fi f.fn pi pn = true from hl) ▸ zj _ f.fi f.fn pi pn).mono fun e w' ⟨he, hg⟩ => ⟨_, he, hg, rfl⟩)
  case o7x1 => exact fun _ _ _ _ => jg (v := vTr) _ rfl rfl rfl
  case o8x1 => exact fun _ _ _ _ => jO rfl
  case o9x1 => exact fun _ _ _ _ => jO rfl
  case o10x1 => exact fun _ _ _ _ => jO rfl
  intro ptrs w5 GD hxE
  simp only [List.drop_succ_cons, List.drop_zero]
  replace kr := GD.has kr
  replace kg1 := GD.has kg1
  replace kg2 := GD.has kg2
  replace kg3 := GD.has kg3
  replace kg4 := GD.has kg4
  replace GG := GG.drew.tg GD
  clear GD
  refine zf 29 rfl rfl (mv 30 (vTr) ?_)
  refine nr ?_; intro U h; simp only [z0, z1] at h; subst h
  refine wpList_nil (jc (wp_cond_true rfl (wp_seq (wp_region_lit (sv 31 (.agg (c62 false false Sl.nil false Sl.nil)) (jf 62 _ rfl g4 0 5 rfl 62 _ kg4 _ Try.underlying62 rfl si62 _) ?_)))))
  refine jn rfl rfl 62 _ _ rfl g3 0 rfl (.agg (c62 false false Sl.nil false Sl.nil)) rfl 62 _ kg3 (c62 false false Sl.nil false Sl.nil) rfl (by kernel_rfl) (nlB rfl) (by kernel_rfl) (c62 false false Sl.nil false Sl.nil) (by kernel_rfl) ?_
  intro w7 St
  replace kr := St.has (by omega) kr
  replace kg1 := St.has (by omega) kg1
  replace kg2 := St.has (by omega) kg2
  replace kg4 := St.has (by omega) kg4
  replace GG := GG.st St (.inl bg3)
  replace kg3 := St.new
  clear St
  refine wpList_nil (jc (wp_ret (jC (jV (jC ?_)))))
  refine bodyPost_ret (results_cell_row Try.results22 _ _ g3 62 _ (0, 0) _ rfl kg3 Try.underlying62 rfl (by kernel_rfl)) rfl ?_
  exact ⟨_, (r :: blk so), (txb u), rfl, TV.no _, ⟨B, so, sc, u, H.keep1 GG kr, hk, rfl, rfl, rfl⟩, GG.p1, Fresh.refl _ _, Fresh.refl _ _⟩
theorem uW (w : World) (r B : Nat) (id : Nat → Nat) (op : Bool) (mi mn pi pn : Int) (oth : Nat → Nat) (so : Option Addr) (sc : Nat) (u : List RV) (k c : Nat) (H : WX 34 (c34 id true op mi mn pi pn oth ⟨so, u.length, sc⟩ ((k : Nat) : Int) ((c : Nat) : Int)) w r B so sc u) (hk : k ≤ u.length) (f : Fr) (ni nn : Int) (hf1 : f.kind = 1) (hl : lessN f.fi f.fn pi pn = false) (hz : (decide (f.fi = 0) && decide (f.fn = 0)) = true) : Calls Try.prog 22 #[pK r 0, .agg (frA f), .agg (c29 ni nn)] w (HearD w r id (r :: blk so) (txb u) (⟨true, op, mi, mn, pi, pn, oth, k, ((u.drop k).map (·.l)), c⟩, PT.no)) := by
  refine jp Try.func22 rfl Try.ntmps22 [pK r 0, .agg (frA f), .agg (c29 ni nn)] ?_
  intro U h; simp only [List.length_cons, List.length_nil, List.cons_append, List.nil_append, Nat.reduceAdd, Nat.reduceSub, List.reduceReplicate] at h; subst h
  have GG := GroS.refl [r] w
  have kr := H.box
  have hpl := H.lt
  have hBl := H.bl
  refine wp_seq (wp_region_lit ?_)
  refine jB 4 rfl rfl 46 _ rfl _ rfl (frA f) rfl ?_
  intro w1 g1 G eg1 kg1
  have bg1 := jl GG eg1
  have drg1 := je kr eg1
  replace kr := G.has kr
  replace GG := GG.tg G
  clear G eg1
  refine jB 5 rfl rfl 29 _ rfl _ rfl (c29 ni nn) rfl ?_
  intro w2 g2 G eg2 kg2
  have bg2 := jl GG eg2
  have drg2 := je kr eg2
  have dg1g2 := je kg1 eg2
  replace kr := G.has kr
  replace kg1 := G.has kg1
  replace GG := GG.tg G
  clear G eg2
  refine jq 6 rfl rfl 62 rfl _ zv62 _ rfl ?_
  intro w3 g3 G eg3 kg3
  have bg3 := jl GG eg3
  have drg3 := je kr eg3
  have dg1g3 := je kg1 eg3
  have dg2g3 := je kg2 eg3
  replace kr := G.has kr
  replace kg1 := G.has kg1
  replace kg2 := G.has kg2
  replace GG := GG.tg G
  clear G eg3
  refine wpList_nil (jc (wp_seq (wp_region_lit ?_)))
  refine jq 7 rfl rfl 62 rfl _ zv62 _ rfl ?_
  intro w4 g4 G eg4 kg4
  have bg4 := jl GG eg4
  have drg4 := je kr eg4
  have dg1g4 := je kg1 eg4
  have dg2g4 := je kg2 eg4
  have dg3g4 := je kg3 eg4
  replace kr := G.has kr
  replace kg1 := G.has kg1
  replace kg2 := G.has kg2
  replace kg3 := G.has kg3
  replace GG := GG.tg G
  clear G eg4
  refine wpList_nil (jc (wp_seq (wp_seq (wp_region_lit (mv 8 (pK r 0) ?_)))))
  refine nr ?_; intro U h; simp only [z0, z1] at h; subst h
  refine sv 9 (pK r 0) (jj _ rfl _ rfl) (sv 10 (pK r 16) (jd 34 _ 1 rfl _ _ rfl _) (sv 11 (vTr) (jh 4 _ rfl r 16 rfl 34 _ kr (na4 _) _ rfl) (sv 12 (vFa) (jE _ _ rfl true rfl) (wpList_nil (jc (wp_cond_false rfl (wp_skip (jc (wp_seq (wp_seq (wp_region_lit (sv 14 (pK g1 0) (jd 46 _ 0 rfl _ _ rfl _) ?_))))))))))))
  refine nr ?_; intro U h; simp only [z0, z1] at h; subst h
  refine sv 15 (iK f.kind) (jh 3 _ rfl g1 0 rfl 46 _ kg1 (na3 _) _ rfl) (wpList_nil (jc (wp_block (wp_seq (wp_region_lit (sv 17 (vTr) (jo 3 .i64 _ _ _ rfl Try.underlying3 f.kind 1 rfl rfl true (decide_eq_true hf1) _) (mv 16 (vTr) (wpList_nil (jc (wp_cond_true rfl (wp_seq (wp_seq ?_))))))))))))
  refine jk (A := ?Ax2) 11 [(0, 18), (1, 19), (2, 20), (3, 21), (4, 22), (5, 23), (6, 24), (7, 25), (8, 26), (9, 27), (10, 28)] [.val (pK g1 52), .val (.agg (c29 f.fi f.fn)), .val (pK r 0), .val (pK r 0), .val (pK r 20), .val (.agg (c29 pi pn)), .val (vFa), .val (vFa), .val (pK g1 52), .val (.agg (c29 f.fi f.fn)), .val (.agg (c29 0 0))] follows (by kernel_rfl) rfl ?hAx2 (ja ?o0x2 (ja ?o1x2 (ja ?o2x2 (ja ?o3x2 (ja ?o4x2 (ja ?o5x2 (ja ?o6x2 (ja ?o7x2 (ja ?o8x2 (ja ?o9x2 (ja ?o10x2 jw))))))))))) ?restx2
  case hAx2 =>
    intro ptrs
    simp only [full, foldSlots, filledE, postE, List.foldl_cons, List.foldl_nil, List.getD_cons_zero, List.getD_cons_succ, jr, List.set_cons_zero, List.set_cons_succ]
    exact rfl
  case o0x2 => exact fun _ _ hw _ => jb (v := pK g1 52) rfl (jd 46 _ 6 rfl _ _ rfl _)
  case o1x2 => exact fun _ _ hw _ => jb (v := .agg (c29 f.fi f.fn)) rfl (jf 29 _ rfl g1 52 2 rfl 46 _ (hw.has kg1) _ Try.underlying29 rfl si29 _)
  case o2x2 => exact fun _ _ _ _ => jg (v := pK r 0) _ rfl rfl rfl
  case o3x2 => exact fun _ _ hw _ => jb (v := pK r 0) rfl (jj _ rfl _ rfl)
  case o4x2 => exact fun _ _ hw _ => jb (v := pK r 20) rfl (jd 34 _ 4 rfl _ _ rfl _)
  case o5x2 => exact fun _ _ hw _ => jb (v := .agg (c29 pi pn)) rfl (jf 29 _ rfl r 20 2 rfl 34 _ (hw.has kr) _ Try.underlying29 rfl si29 _)
  case o6x2 => exact fun _ _ hw _ => jT (.val (vFa)) rfl _ 46 Try.call46 rfl rfl _ rfl [.agg (c29 f.fi f.fn), .agg (c29 pi pn)] rfl (((show lessN f.fi f.fn pi pn = false from hl) ▸ zj _ f.fi f.fn pi pn).mono fun e w' ⟨he, hg⟩ => ⟨_, he, hg, rfl⟩)
  case o7x2 => exact fun _ _ _ _ => jg (v := vFa) _ rfl rfl rfl
  case o8x2 => exact fun _ _ hw _ => jb (v := pK g1 52) rfl (jd 46 _ 6 rfl _ _ rfl _)
  case o9x2 => exact fun _ _ hw _ => jb (v := .agg (c29 f.fi f.fn)) rfl (jf 29 _ rfl g1 52 2 rfl 46 _ (hw.has kg1) _ Try.underlying29 rfl si29 _)
  case o10x2 => exact fun _ _ hw _ => jb (v := .agg (c29 0 0)) rfl (jy 29 _ rfl [] rfl _ (by kernel_rfl))
  intro ptrs w5 GD hxE
  simp only [List.drop_succ_cons, List.drop_zero]
  replace kr := GD.has kr
  replace kg1 := GD.has kg1
  replace kg2 := GD.has kg2
  replace kg3 := GD.has kg3
  replace kg4 := GD.has kg4
  replace GG := GG.drew.tg GD
  clear GD
  refine jI 29 rfl rfl (vTr) (jH _ _ _ rfl f.fi f.fn 0 0 rfl rfl true (hz) _) (mv 30 (vTr) ?_)
  refine nr ?_; intro U h; simp only [z0, z1] at h; subst h
  refine wpList_nil (jc (wp_cond_true rfl (wp_seq (wp_region_lit (sv 31 (.agg (c62 false false Sl.nil false Sl.nil)) (jf 62 _ rfl g4 0 5 rfl 62 _ kg4 _ Try.underlying62 rfl si62 _) ?_)))))
  refine jn rfl rfl 62 _ _ rfl g3 0 rfl (.agg (c62 false false Sl.nil false Sl.nil)) rfl 62 _ kg3 (c62 false false Sl.nil false Sl.nil) rfl (by kernel_rfl) (nlB rfl) (by kernel_rfl) (c62 false false Sl.nil false Sl.nil) (by kernel_rfl) ?_
  intro w7 St
  replace kr := St.has (by omega) kr
  replace kg1 := St.has (by omega) kg1
  replace kg2 := St.has (by omega) kg2
  replace kg4 := St.has (by omega) kg4
  replace GG := GG.st St (.inl bg3)
  replace kg3 := St.new
  clear St
  refine wpList_nil (jc (wp_ret (jC (jV (jC ?_)))))
  refine bodyPost_ret (results_cell_row Try.results22 _ _ g3 62 _ (0, 0) _ rfl kg3 Try.underlying62 rfl (by kernel_rfl)) rfl ?_
  exact ⟨_, (r :: blk so), (txb u), rfl, TV.no _, ⟨B, so, sc, u, H.keep1 GG kr, hk, rfl, rfl, rfl⟩, GG.p1, Fresh.refl _ _, Fresh.refl _ _⟩
theorem uX (w : World) (r B : Nat) (id : Nat → Nat) (op : Bool) (mi mn pi pn : Int) (oth : Nat → Nat) (so : Option Addr) (sc : Nat) (u : List RV) (k c : Nat) (H : WX 34 (c34 id true op mi mn pi pn oth ⟨so, u.length, sc⟩ ((k : Nat) : Int) ((c : Nat) : Int)) w r B so sc u) (hk : k ≤ u.length) (f : Fr) (ni nn : Int) (hf1 : f.kind = 1) (hl : lessN f.fi f.fn pi pn = false) (hz : (decide (f.fi = 0) && decide (f.fn = 0)) = false) (hg : lessN pi pn f.fi f.fn = false) (hs : (decide (f.ti = mi) && decide (f.tn = mn)) = false) : Calls Try.prog 22 #[pK r 0, .agg (frA f), .agg (c29 ni nn)] w (HearD w r id (r :: blk so) (txb u) (⟨true, op, mi, mn, pi, pn, oth, k, ((u.drop k).map (·.l)), c⟩, ⟨false, false, [], false, [⟨1, id, mi, mn, pi, pn, 0, []⟩]⟩)) := by
  refine jp Try.func22 rfl Try.ntmps22 [pK r 0, .agg (frA f), .agg (c29 ni nn)] ?_
  intro U h; simp only [List.length_cons, List.length_nil, List.cons_append, List.nil_append, Nat.reduceAdd, Nat.reduceSub, List.reduceReplicate] at h; subst h
  have GG := GroS.refl [r] w
  have kr := H.box
  have hpl := H.lt
  have hBl := H.bl
  refine wp_seq (wp_region_lit ?_)
  refine jB 4 rfl rfl 46 _ rfl _ rfl (frA f) rfl ?_
  intro w1 g1 G eg1 kg1
  have bg1 := jl GG eg1
  have drg1 := je kr eg1
  replace kr := G.has kr
  replace GG := GG.tg G
  clear G eg1
  refine jB 5 rfl rfl 29 _ rfl _ rfl (c29 ni nn) rfl ?_
  intro w2 g2 G eg2 kg2
  have bg2 := jl GG eg2
  have drg2 := je kr eg2
  have dg1g2 := je kg1 eg2
  replace kr := G.has kr
  replace kg1 := G.has kg1
  replace GG := GG.tg G
  clear G eg2
  refine jq 6 rfl rfl 62 rfl _ zv62 _ rfl ?_
  intro w3 g3 G eg3 kg3
  have bg3 := jl GG eg3
  have drg3 := je kr eg3
  have dg1g3 := je kg1 eg3
  have dg2g3 := je kg2 eg3
  replace kr := G.has kr
  replace kg1 := G.has kg1
  replace kg2 := G.has kg2
  replace GG := GG.tg G
  clear G eg3
  refine wpList_nil (jc (wp_seq (wp_region_lit ?_)))
  refine jq 7 rfl rfl 62 rfl _ zv62 _ rfl ?_
  intro w4 g4 G eg4 kg4
  have bg4 := jl GG eg4
  have drg4 := je kr eg4
  have dg1g4 := je kg1 eg4
  have dg2g4 := je kg2 eg4
  have dg3g4 := je kg3 eg4
  replace kr := G.has kr
  replace kg1 := G.has kg1
  replace kg2 := G.has kg2
  replace kg3 := G.has kg3
  replace GG := GG.tg G
  clear G eg4
  refine wpList_nil (jc (wp_seq (wp_seq (wp_region_lit (mv 8 (pK r 0) ?_)))))
  refine nr ?_; intro U h; simp only [z0, z1] at h; subst h
  refine sv 9 (pK r 0) (jj _ rfl _ rfl) (sv 10 (pK r 16) (jd 34 _ 1 rfl _ _ rfl _) (sv 11 (vTr) (jh 4 _ rfl r 16 rfl 34 _ kr (na4 _) _ rfl) (sv 12 (vFa) (jE _ _ rfl true rfl) (wpList_nil (jc (wp_cond_false rfl (wp_skip (jc (wp_seq (wp_seq (wp_region_lit (sv 14 (pK g1 0) (jd 46 _ 0 rfl _ _ rfl _) ?_))))))))))))
  refine nr ?_; intro U h; simp only [z0, z1] at h; subst h
  refine sv 15 (iK f.kind) (jh 3 _ rfl g1 0 rfl 46 _ kg1 (na3 _) _ rfl) (wpList_nil (jc (wp_block (wp_seq (wp_region_lit (sv 17 (vTr) (jo 3 .i64 _ _ _ rfl Try.underlying3 f.kind 1 rfl rfl true (decide_eq_true hf1) _) (mv 16 (vTr) (wpList_nil (jc (wp_cond_true rfl (wp_seq (wp_seq ?_))))))))))))
  refine jk (A := ?Ax3) 11 [(0, 18), (1, 19), (2, 20), (3, 21), (4, 22), (5, 23), (6, 24), (7, 25), (8, 26), (9, 27), (10, 28)] [.val (pK g1 52), .val (.agg (c29 f.fi f.fn)), .val (pK r 0), .val (pK r 0), .val (pK r 20), .val (.agg (c29 pi pn)), .val (vFa), .val (vFa), .val (pK g1 52), .val (.agg (c29 f.fi f.fn)), .val (.agg (c29 0 0))] follows (by kernel_rfl) rfl ?hAx3 (ja ?o0x3 (ja ?o1x3 (ja ?o2x3 (ja ?o3x3 (ja ?o4x3 (ja ?o5x3 (ja ?o6x3 (ja ?o7x3 (ja ?o8x3 (ja ?o9x3 (ja ?o10x3 jw))))))))))) ?restx3
  case hAx3 =>
    intro ptrs
    simp only [full, foldSlots, filledE, postE, List.foldl_cons, List.foldl_nil, List.getD_cons_zero, List.getD_cons_succ, jr, List.set_cons_zero, List.set_cons_succ]
    exact rfl
  case o0x3 => exact fun _ _ hw _ => jb (v := pK g1 52) rfl (jd 46 _ 6 rfl _ _ rfl _)
  case o1x3 => exact fun _ _ hw _ => jb (v := .agg (c29 f.fi f.fn)) rfl (jf 29 _ rfl g1 52 2 rfl 46 _ (hw.has kg1) _ Try.underlying29 rfl si29 _)
  case o2x3 => exact fun _ _ _ _ => jg (v := pK r 0) _ rfl rfl rfl
  case o3x3 => exact fun _ _ hw _ => jb (v := pK r 0) rfl (jj _ rfl _ rfl)
  case o4x3 => exact fun _ _ hw _ => jb (v := pK r 20) rfl (jd 34 _ 4 rfl _ _ rfl _)
  case o5x3 => exact fun _ _ hw _ => jb (v := .agg (c29 pi pn)) rfl (jf 29 _ rfl r 20 2 rfl 34 _ (hw.has kr) _ Try.underlying29 rfl si29 _)
  case o6x3 => exact fun _ _ hw _ => jT (.val (vFa)) rfl _ 46 Try.call46 rfl rfl _ rfl [.agg (c29 f.fi f.fn), .agg (c29 pi pn)] rfl (((show lessN f.fi f.fn pi pn = false from hl) ▸ zj _ f.fi f.fn pi pn).mono fun e w' ⟨he, hg⟩ => ⟨_, he, hg, rfl⟩)
  case o7x3 => exact fun _ _ _ _ => jg (v := vFa) _ rfl rfl rfl
  case o8x3 => exact fun _ _ hw _ => jb (v := pK g1 52) rfl (jd 46 _ 6 rfl _ _ rfl _)
  case o9x3 => exact fun _ _ hw _ => jb (v := .agg (c29 f.fi f.fn)) rfl (jf 29 _ rfl g1 52 2 rfl 46 _ (hw.has kg1) _ Try.underlying29 rfl si29 _)
  case o10x3 => exact fun _ _ hw _ => jb (v := .agg (c29 0 0)) rfl (jy 29 _ rfl [] rfl _ (by kernel_rfl))
  intro ptrs w5 GD hxE
  simp only [List.drop_succ_cons, List.drop_zero]
  replace kr := GD.has kr
  replace kg1 := GD.has kg1
  replace kg2 := GD.has kg2
  replace kg3 := GD.has kg3
  replace kg4 := GD.has kg4
  replace GG := GG.drew.tg GD
  clear GD
  refine jI 29 rfl rfl (vFa) (jH _ _ _ rfl f.fi f.fn 0 0 rfl rfl false (hz) _) (mv 30 (vFa) ?_)
  refine nr ?_; intro U h; simp only [z0, z1] at h; subst h
  refine wpList_nil (jc (wp_cond_false rfl (wp_skip (jc (wp_seq (wp_seq ?_))))))
  refine jk (A := ?Ax4) 6 [(0, 32), (1, 33), (2, 34), (3, 35), (4, 36), (5, 37)] [.val (pK r 0), .val (pK r 0), .val (pK r 20), .val (.agg (c29 pi pn)), .val (pK g1 52), .val (.agg (c29 f.fi f.fn))] follows (by kernel_rfl) rfl ?hAx4 (ja ?o0x4 (ja ?o1x4 (ja ?o2x4 (ja ?o3x4 (ja ?o4x4 (ja ?o5x4 jw)))))) ?restx4
  case hAx4 =>
    intro ptrs
    simp only [full, foldSlots, filledE, postE, List.foldl_cons, List.foldl_nil, List.getD_cons_zero, List.getD_cons_succ, jr, List.set_cons_zero, List.set_cons_succ]
    exact rfl
  case o0x4 => exact fun _ _ _ _ => jg (v := pK r 0) _ rfl rfl rfl
  case o1x4 => exact fun _ _ hw _ => jb (v := pK r 0) rfl (jj _ rfl _ rfl)
  case o2x4 => exact fun _ _ hw _ => jb (v := pK r 20) rfl (jd 34 _ 4 rfl _ _ rfl _)
  case o3x4 => exact fun _ _ hw _ => jb (v := .agg (c29 pi pn)) rfl (jf 29 _ rfl r 20 2 rfl 34 _ (hw.has kr) _ Try.underlying29 rfl si29 _)
  case o4x4 => exact fun _ _ hw _ => jb (v := pK g1 52) rfl (jd 46 _ 6 rfl _ _ rfl _)
  case o5x4 => exact fun _ _ hw _ => jb (v := .agg (c29 f.fi f.fn)) rfl (jf 29 _ rfl g1 52 2 rfl 46 _ (hw.has kg1) _ Try.underlying29 rfl si29 _)
  intro ptrs w6 GD hxE
  simp only [List.drop_succ_cons, List.drop_zero]
  replace kr := GD.has kr
  replace kg1 := GD.has kg1
  replace kg2 := GD.has kg2
  replace kg3 := GD.has kg3
  replace kg4 := GD.has kg4
  replace GG := GG.drew.tg GD
  clear GD
  refine jz 38 rfl rfl _ 46 Try.call46 rfl rfl _ rfl [.agg (c29 pi pn), .agg (c29 f.fi f.fn)] rfl ((show lessN pi pn f.fi f.fn = false from hg) ▸ zj _ pi pn f.fi f.fn) ?_
  intro w7 G
  replace kr := G.has kr
  replace kg1 := G.has kg1
  replace kg2 := G.has kg2
  replace kg3 := G.has kg3
  replace kg4 := G.has kg4
  replace GG := GG.tg G
  clear G
  refine wpList_nil (jc (wp_cond_false rfl (wp_skip (jc (wp_seq (wp_seq ?_))))))
  refine jk (A := ?Ax5) 6 [(0, 65), (1, 66), (2, 67), (3, 68), (4, 69), (5, 70)] [.val (pK g1 54), .val (.agg (c29 f.ti f.tn)), .val (pK r 0), .val (pK r 0), .val (pK r 18), .val (.agg (c29 mi mn))] follows (by kernel_rfl) rfl ?hAx5 (ja ?o0x5 (ja ?o1x5 (ja ?o2x5 (ja ?o3x5 (ja ?o4x5 (ja ?o5x5 jw)))))) ?restx5
  case hAx5 =>
    intro ptrs
    simp only [full, foldSlots, filledE, postE, List.foldl_cons, List.foldl_nil, List.getD_cons_zero, List.getD_cons_succ, jr, List.set_cons_zero, List.set_cons_succ]
    exact rfl
  case o0x5 => exact fun _ _ hw _ => jb (v := pK g1 54) rfl (jd 46 _ 7 rfl _ _ rfl _)
  case o1x5 => exact fun _ _ hw _ => jb (v := .agg (c29 f.ti f.tn)) rfl (jf 29 _ rfl g1 54 2 rfl 46 _ (hw.has kg1) _ Try.underlying29 rfl si29 _)
  case o2x5 => exact fun _ _ _ _ => jg (v := pK r 0) _ rfl rfl rfl
  case o3x5 => exact fun _ _ hw _ => jb (v := pK r 0) rfl (jj _ rfl _ rfl)
  case o4x5 => exact fun _ _ hw _ => jb (v := pK r 18) rfl (jd 34 _ 3 rfl _ _ rfl _)
  case o5x5 => exact fun _ _ hw _ => jb (v := .agg (c29 mi mn)) rfl (jf 29 _ rfl r 18 2 rfl 34 _ (hw.has kr) _ Try.underlying29 rfl si29 _)
  intro ptrs w8 GD hxE
  simp only [List.drop_succ_cons, List.drop_zero]
  replace kr := GD.has kr
  replace kg1 := GD.has kg1
  replace kg2 := GD.has kg2
  replace kg3 := GD.has kg3
  replace kg4 := GD.has kg4
  replace GG := GG.drew.tg GD
  clear GD
  refine sv 71 (vFa) (jH _ _ _ rfl f.ti f.tn mi mn rfl rfl false (hs) _) (mv 72 (vFa) (zf 73 rfl rfl (zf 74 rfl rfl ?_)))
  refine nr ?_; intro U h; simp only [z0, z1] at h; subst h
  refine zf 75 rfl rfl (zf 76 rfl rfl (zf 77 rfl rfl (mv 78 (vFa) (wpList_nil (jc (wp_cond_false rfl (wp_skip (jc (wp_seq ?_)))))))))
  refine jk (A := ?Ax6) 13 [(0, 83), (1, 84), (2, 85), (3, 86), (4, 87), (5, 88), (6, 89), (7, 90), (8, 91), (9, 92), (10, 93), (11, 94), (12, 95)] [.val (pK r 0), .val (pK r 0), .val (pK r 18), .val (.agg (c29 mi mn)), .val (pK r 0), .val (pK r 0), .val (pK r 20), .val (.agg (c29 pi pn)), .val (pK r 0), .val (pK r 0), .val (pK r 38), .val (pK r 40), .val (iK ((c : Nat) : Int))] follows (by kernel_rfl) rfl ?hAx6 (ja ?o0x6 (ja ?o1x6 (ja ?o2x6 (ja ?o3x6 (ja ?o4x6 (ja ?o5x6 (ja ?o6x6 (ja ?o7x6 (ja ?o8x6 (ja ?o9x6 (ja ?o10x6 (ja ?o11x6 (ja ?o12x6 jw))))))))))))) ?restx6
  case hAx6 =>
    intro ptrs
    simp only [full, foldSlots, filledE, postE, List.foldl_cons, List.foldl_nil, List.getD_cons_zero, List.getD_cons_succ, jr, List.set_cons_zero, List.set_cons_succ]
    exact rfl
  case o0x6 => exact fun _ _ _ _ => jg (v := pK r 0) _ rfl rfl rfl
  case o1x6 => exact fun _ _ hw _ => jb (v := pK r 0) rfl (jj _ rfl _ rfl)
  case o2x6 => exact fun _ _ hw _ => jb (v := pK r 18) rfl (jd 34 _ 3 rfl _ _ rfl _)
  case o3x6 => exact fun _ _ hw _ => jb (v := .agg (c29 mi mn)) rfl (jf 29 _ rfl r 18 2 rfl 34 _ (hw.has kr) _ Try.underlying29 rfl si29 _)
  case o4x6 => exact fun _ _ _ _ => jg (v := pK r 0) _ rfl rfl rfl
  case o5x6 => exact fun _ _ hw _ => jb (v := pK r 0) rfl (jj _ rfl _ rfl)
  case o6x6 => exact fun _ _ hw _ => jb (v := pK r 20) rfl (jd 34 _ 4 rfl _ _ rfl _)
  case o7x6 => exact fun _ _ hw _ => jb (v := .agg (c29 pi pn)) rfl (jf 29 _ rfl r 20 2 rfl 34 _ (hw.has kr) _ Try.underlying29 rfl si29 _)
  case o8x6 => exact fun _ _ _ _ => jg (v := pK r 0) _ rfl rfl rfl
  case o9x6 => exact fun _ _ hw _ => jb (v := pK r 0) rfl (jj _ rfl _ rfl)
  case o10x6 => exact fun _ _ hw _ => jb (v := pK r 38) rfl (jd 34 _ 6 rfl _ _ rfl _)
  case o11x6 => exact fun _ _ hw _ => jb (v := pK r 40) rfl (jd 32 _ 2 rfl _ _ rfl _)
  case o12x6 => exact fun _ _ hw _ => jb (v := iK ((c : Nat) : Int)) rfl (jh 2 _ rfl r 40 rfl 34 _ (hw.has kr) (na2 _) _ rfl)
  intro ptrs w9 GD hxE
  simp only [List.drop_succ_cons, List.drop_zero]
  replace kr := GD.has kr
  replace kg1 := GD.has kg1
  replace kg2 := GD.has kg2
  replace kg3 := GD.has kg3
  replace kg4 := GD.has kg4
  replace GG := GG.drew.tg GD
  clear GD
  refine sv 96 (.agg (c46 3 zF 0 false zF zF ((c : Nat) : Int) mi mn pi pn Sl.nil Sl.nil zF 0 zF Sl.nil 0 0 Sl.nil)) (jy 46 _ rfl [(0, iK 3), (6, .agg (c29 mi mn)), (7, .agg (c29 pi pn)), (5, iK ((c : Nat) : Int))] rfl _ (by kernel_rfl)) ?_
  refine nr ?_; intro U h; simp only [z0, z1] at h; subst h
  refine zk 97 rfl rfl 50 1 _ rfl [(0, .agg (c46 3 zF 0 false zF zF ((c : Nat) : Int) mi mn pi pn Sl.nil Sl.nil zF 0 zF Sl.nil 0 0 Sl.nil))] rfl (c46 3 zF 0 false zF zF ((c : Nat) : Int) mi mn pi pn Sl.nil Sl.nil zF 0 zF Sl.nil 0 0 Sl.nil) 46 (by kernel_rfl) ?_
  intro w10 g5 G eg5 kg5
  have bg5 := jl GG eg5
  have drg5 := je kr eg5
  have dg1g5 := je kg1 eg5
  have dg2g5 := je kg2 eg5
  have dg3g5 := je kg3 eg5
  have dg4g5 := je kg4 eg5
  replace kr := G.has kr
  replace kg1 := G.has kg1
  replace kg2 := G.has kg2
  replace kg3 := G.has kg3
  replace kg4 := G.has kg4
  replace GG := GG.tg G
  clear G eg5
  refine sv 98 (pK g4 4) (jd 62 _ 4 rfl _ _ rfl _) ?_
  refine jn rfl rfl 50 _ _ rfl g4 4 rfl (.slice (some ⟨g5, 0, none⟩) 1 1) rfl 62 _ kg4 #[.slice (some ⟨g5, 0, none⟩) 1 1] rfl (by kernel_rfl) (nlB rfl) (by kernel_rfl) (c62 false false Sl.nil false ⟨some ⟨g5, 0, none⟩, 1, 1⟩) (by kernel_rfl) ?_
  intro w12 St
  replace kr := St.has (by omega) kr
  replace kg1 := St.has (by omega) kg1
  replace kg2 := St.has (by omega) kg2
  replace kg3 := St.has (by omega) kg3
  replace kg5 := St.has (by omega) kg5
  replace GG := GG.st St (.inl bg4)
  replace kg4 := St.new
  clear St
  refine wpList_nil (jc (wp_seq ?_))
  refine jk (A := ?Ax7) 6 [(0, 99), (1, 100), (2, 101), (3, 102), (4, 103), (5, 104)] [.val (pK g1 54), .val (.agg (c29 f.ti f.tn)), .val (pK r 0), .val (pK r 0), .val (pK r 18), .val (.agg (c29 mi mn))] follows (by kernel_rfl) rfl ?hAx7 (ja ?o0x7 (ja ?o1x7 (ja ?o2x7 (ja ?o3x7 (ja ?o4x7 (ja ?o5x7 jw)))))) ?restx7
  case hAx7 =>
    intro ptrs
    simp only [full, foldSlots, filledE, postE, List.foldl_cons, List.foldl_nil, List.getD_cons_zero, List.getD_cons_succ, jr, List.set_cons_zero, List.set_cons_succ]
    exact rfl
  case o0x7 => exact fun _ _ hw _ => jb (v := pK g1 54) rfl (jd 46 _ 7 rfl _ _ rfl _)
  case o1x7 => exact fun _ _ hw _ => jb (v := .agg (c29 f.ti f.tn)) rfl (jf 29 _ rfl g1 54 2 rfl 46 _ (hw.has kg1) _ Try.underlying29 rfl si29 _)
  case o2x7 => exact fun _ _ _ _ => jg (v := pK r 0) _ rfl rfl rfl
  case o3x7 => exact fun _ _ hw _ => jb (v := pK r 0) rfl (jj _ rfl _ rfl)
  case o4x7 => exact fun _ _ hw _ => jb (v := pK r 18) rfl (jd 34 _ 3 rfl _ _ rfl _)
  case o5x7 => exact fun _ _ hw _ => jb (v := .agg (c29 mi mn)) rfl (jf 29 _ rfl r 18 2 rfl 34 _ (hw.has kr) _ Try.underlying29 rfl si29 _)
  intro ptrs w13 GD hxE
  simp only [List.drop_succ_cons, List.drop_zero]
  replace kr := GD.has kr
  replace kg1 := GD.has kg1
  replace kg2 := GD.has kg2
  replace kg3 := GD.has kg3
  replace kg4 := GD.has kg4
  replace kg5 := GD.has kg5
  replace GG := GG.drew.tg GD
  clear GD
  refine sv 105 (vTr) (zq _ _ _ rfl f.ti f.tn mi mn rfl rfl true (by rw [hs]; rfl) _) (mv 106 (vTr) (zf 107 rfl rfl ?_))
  refine nr ?_; intro U h; simp only [z0, z1] at h; subst h
  refine zf 108 rfl rfl (mv 109 (vTr) (wpList_nil (jc (wp_cond_true rfl (wp_region_lit (mv 110 (pK r 0) ?_))))))
  refine jz 111 rfl rfl _ 36 Try.call36 rfl rfl _ rfl [pK r 0] rfl (zE _ r B id true op mi mn pi pn oth so sc u k c (H.keep1 GG kr)) ?_
  intro w14 G
  replace kr := G.has kr
  replace kg1 := G.has kg1
  replace kg2 := G.has kg2
  replace kg3 := G.has kg3
  replace kg4 := G.has kg4
  replace kg5 := G.has kg5
  replace GG := GG.tg G
  clear G
  refine zk 112 rfl rfl 50 1 _ rfl [(0, .agg (c46 1 zF 0 false id zF 0 mi mn pi pn Sl.nil Sl.nil zF 0 zF Sl.nil 0 0 Sl.nil))] rfl (c46 1 zF 0 false id zF 0 mi mn pi pn Sl.nil Sl.nil zF 0 zF Sl.nil 0 0 Sl.nil) 46 (by kernel_rfl) ?_
  intro w15 g6 G eg6 kg6
  have bg6 := jl GG eg6
  have drg6 := je kr eg6
  have dg1g6 := je kg1 eg6
  have dg2g6 := je kg2 eg6
  have dg3g6 := je kg3 eg6
  have dg4g6 := je kg4 eg6
  have dg5g6 := je kg5 eg6
  replace kr := G.has kr
  replace kg1 := G.has kg1
  replace kg2 := G.has kg2
  replace kg3 := G.has kg3
  replace kg4 := G.has kg4
  replace kg5 := G.has kg5
  replace GG := GG.tg G
  clear G eg6
  refine nr ?_; intro U h; simp only [z0, z1] at h; subst h
  refine sv 113 (pK g4 4) (jd 62 _ 4 rfl _ _ rfl _) ?_
  refine jn rfl rfl 50 _ _ rfl g4 4 rfl (.slice (some ⟨g6, 0, none⟩) 1 1) rfl 62 _ kg4 #[.slice (some ⟨g6, 0, none⟩) 1 1] rfl (by kernel_rfl) (nlB rfl) (by kernel_rfl) (c62 false false Sl.nil false ⟨some ⟨g6, 0, none⟩, 1, 1⟩) (by kernel_rfl) ?_
  intro w17 St
  replace kr := St.has (by omega) kr
  replace kg1 := St.has (by omega) kg1
  replace kg2 := St.has (by omega) kg2
  replace kg3 := St.has (by omega) kg3
  replace kg5 := St.has (by omega) kg5
  replace kg6 := St.has (by omega) kg6
  replace GG := GG.st St (.inl bg4)
  replace kg4 := St.new
  clear St
  refine wpList_nil (zh (jc (wp_seq (wp_region_lit (sv 203 (.agg (c62 false false Sl.nil false ⟨some ⟨g6, 0, none⟩, 1, 1⟩)) (jf 62 _ rfl g4 0 5 rfl 62 _ kg4 _ Try.underlying62 rfl si62 _) ?_)))))
  refine jn rfl rfl 62 _ _ rfl g3 0 rfl (.agg (c62 false false Sl.nil false ⟨some ⟨g6, 0, none⟩, 1, 1⟩)) rfl 62 _ kg3 (c62 false false Sl.nil false ⟨some ⟨g6, 0, none⟩, 1, 1⟩) rfl (by kernel_rfl) (nlB rfl) (by kernel_rfl) (c62 false false Sl.nil false ⟨some ⟨g6, 0, none⟩, 1, 1⟩) (by kernel_rfl) ?_
  intro w19 St
  replace kr := St.has (by omega) kr
  replace kg1 := St.has (by omega) kg1
  replace kg2 := St.has (by omega) kg2
  replace kg4 := St.has (by omega) kg4
  replace kg5 := St.has (by omega) kg5
  replace kg6 := St.has (by omega) kg6
  replace GG := GG.st St (.inl bg3)
  replace kg3 := St.new
  clear St
  refine wpList_nil (jc (wp_ret ?_))
  refine bodyPost_ret (results_cell_row Try.results22 _ _ g3 62 _ (0, 0) _ rfl kg3 Try.underlying62 rfl (by kernel_rfl)) rfl ?_
  exact ⟨_, (r :: blk so), (txb u), rfl, TV.one (f := pfr ⟨1, id, mi, mn, pi, pn, 0, []⟩ Sl.nil Sl.nil Sl.nil Sl.nil) kg6 (zQ _ _ _ _ _ _ _ _), ⟨B, so, sc, u, H.keep1 GG kr, hk, rfl, rfl, rfl⟩, GG.p1, Fresh.refl _ _, Fresh.refl _ _⟩
theorem JF (w : World) (r B : Nat) (id : Nat → Nat) (mi mn pi pn : Int) (oth : Nat → Nat) (so : Option Addr) (sc : Nat) (u : List RV) (k c : Nat) (H : WX 34 (c34 id true true mi mn pi pn oth ⟨so, u.length, sc⟩ ((k : Nat) : Int) ((c : Nat) : Int)) w r B so sc u) (hk : k ≤ u.length) (f : Fr) (ni nn : Int) (hf1 : f.kind = 1) (hl : lessN f.fi f.fn pi pn = false) (hz : (decide (f.fi = 0) && decide (f.fn = 0)) = false) (hg : lessN pi pn f.fi f.fn = false) (hs : (decide (f.ti = mi) && decide (f.tn = mn)) = true) : Calls Try.prog 22 #[pK r 0, .agg (frA f), .agg (c29 ni nn)] w (HearD w r id (r :: blk so) (txb u) (⟨true, true, mi, mn, pi, pn, oth, k, ((u.drop k).map (·.l)), c⟩, ⟨false, false, [], false, [⟨3, zF, mi, mn, pi, pn, ((c : Nat) : Int), []⟩]⟩)) := by
  refine jp Try.func22 rfl Try.ntmps22 [pK r 0, .agg (frA f), .agg (c29 ni nn)] ?_
  intro U h; simp only [List.length_cons, List.length_nil, List.cons_append, List.nil_append, Nat.reduceAdd, Nat.reduceSub, List.reduceReplicate] at h; subst h
  have GG := GroS.refl [r] w
  have kr := H.box
  have hpl := H.lt
  have hBl := H.bl
  refine wp_seq (wp_region_lit ?_)
  refine jB 4 rfl rfl 46 _ rfl _ rfl (frA f) rfl ?_
  intro w1 g1 G eg1 kg1
  have bg1 := jl GG eg1
  have drg1 := je kr eg1
  replace kr := G.has kr
  replace GG := GG.tg G
  clear G eg1
  refine jB 5 rfl rfl 29 _ rfl _ rfl (c29 ni nn) rfl ?_
  intro w2 g2 G eg2 kg2
  have bg2 := jl GG eg2
  have drg2 := je kr eg2
  have dg1g2 := je kg1 eg2
  replace kr := G.has kr
  replace kg1 := G.has kg1
  replace GG := GG.tg G
  clear G eg2
  refine jq 6 rfl rfl 62 rfl _ zv62 _ rfl ?_
  intro w3 g3 G eg3 kg3
  have bg3 := jl GG eg3
  have drg3 := je kr eg3
  have dg1g3 := je kg1 eg3
  have dg2g3 := je kg2 eg3
  replace kr := G.has kr
  replace kg1 := G.has kg1
  replace kg2 := G.has kg2
  replace GG := GG.tg G
  clear G eg3
  refine wpList_nil (jc (wp_seq (wp_region_lit ?_)))
  refine jq 7 rfl rfl 62 rfl _ zv62 _ rfl ?_
  intro w4 g4 G eg4 kg4
  have bg4 := jl GG eg4
  have drg4 := je kr eg4
  have dg1g4 := je kg1 eg4
  have dg2g4 := je kg2 eg4
  have dg3g4 := je kg3 eg4
  replace kr := G.has kr
  replace kg1 := G.has kg1
  replace kg2 := G.has kg2
  replace kg3 := G.has kg3
  replace GG := GG.tg G
  clear G eg4
  refine wpList_nil (jc (wp_seq (wp_seq (wp_region_lit (mv 8 (pK r 0) ?_)))))
  refine nr ?_; intro U h; simp only [z0, z1] at h; subst h
  refine sv 9 (pK r 0) (jj _ rfl _ rfl) (sv 10 (pK r 16) (jd 34 _ 1 rfl _ _ rfl _) (sv 11 (vTr) (jh 4 _ rfl r 16 rfl 34 _ kr (na4 _) _ rfl) (sv 12 (vFa) (jE _ _ rfl true rfl) (wpList_nil (jc (wp_cond_false rfl (wp_skip (jc (wp_seq (wp_seq (wp_region_lit (sv 14 (pK g1 0) (jd 46 _ 0 rfl _ _ rfl _) ?_))))))))))))
  refine nr ?_; intro U h; simp only [z0, z1] at h; subst h
  refine sv 15 (iK f.kind) (jh 3 _ rfl g1 0 rfl 46 _ kg1 (na3 _) _ rfl) (wpList_nil (jc (wp_block (wp_seq (wp_region_lit (sv 17 (vTr) (jo 3 .i64 _ _ _ rfl Try.underlying3 f.kind 1 rfl rfl true (decide_eq_true hf1) _) (mv 16 (vTr) (wpList_nil (jc (wp_cond_true rfl (wp_seq (wp_seq ?_))))))))))))
  refine jk (A := ?Ax8) 11 [(0, 18), (1, 19), (2, 20), (3, 21), (4, 22), (5, 23), (6, 24), (7, 25), (8, 26), (9, 27), (10, 28)] [.val (pK g1 52), .val (.agg (c29 f.fi f.fn)), .val (pK r 0), .val (pK r 0), .val (pK r 20), .val (.agg (c29 pi pn)), .val (vFa), .val (vFa), .val (pK g1 52), .val (.agg (c29 f.fi f.fn)), .val (.agg (c29 0 0))] follows (by kernel_rfl) rfl ?hAx8 (ja ?o0x8 (ja ?o1x8 (ja ?o2x8 (ja ?o3x8 (ja ?o4x8 (ja ?o5x8 (ja ?o6x8 (ja ?o7x8 (ja ?o8x8 (ja ?o9x8 (ja ?o10x8 jw))))))))))) ?restx8
  case hAx8 =>
    intro ptrs
    simp only [full, foldSlots, filledE, postE, List.foldl_cons, List.foldl_nil, List.getD_cons_zero, List.getD_cons_succ, jr, List.set_cons_zero, List.set_cons_succ]
    exact rfl
  case o0x8 => exact fun _ _ hw _ => jb (v := pK g1 52) rfl (jd 46 _ 6 rfl _ _ rfl _)
  case o1x8 => exact fun _ _ hw _ => jb (v := .agg (c29 f.fi f.fn)) rfl (jf 29 _ rfl g1 52 2 rfl 46 _ (hw.has kg1) _ Try.underlying29 rfl si29 _)
  case o2x8 => exact fun _ _ _ _ => jg (v := pK r 0) _ rfl rfl rfl
  case o3x8 => exact fun _ _ hw _ => jb (v := pK r 0) rfl (jj _ rfl _ rfl)
  case o4x8 => exact fun _ _ hw _ => jb (v := pK r 20) rfl (jd 34 _ 4 rfl _ _ rfl _)
  case o5x8 => exact fun _ _ hw _ => jb (v := .agg (c29 pi pn)) rfl (jf 29 _ rfl r 20 2 rfl 34 _ (hw.has kr) _ Try.underlying29 rfl si29 _)
  case o6x8 => exact fun _ _ hw _ => jT (.val (vFa)) rfl _ 46 Try.call46 rfl rfl _ rfl [.agg (c29 f.fi f.fn), .agg (c29 pi pn)] rfl (((show lessN f.fi f.fn pi pn = false from hl) ▸ zj _ f.fi f.fn pi pn).mono fun e w' ⟨he, hg⟩ => ⟨_, he, hg, rfl⟩)
  case o7x8 => exact fun _ _ _ _ => jg (v := vFa) _ rfl rfl rfl
  case o8x8 => exact fun _ _ hw _ => jb (v := pK g1 52) rfl (jd 46 _ 6 rfl _ _ rfl _)
  case o9x8 => exact fun _ _ hw _ => jb (v := .agg (c29 f.fi f.fn)) rfl (jf 29 _ rfl g1 52 2 rfl 46 _ (hw.has kg1) _ Try.underlying29 rfl si29 _)
  case o10x8 => exact fun _ _ hw _ => jb (v := .agg (c29 0 0)) rfl (jy 29 _ rfl [] rfl _ (by kernel_rfl))
  intro ptrs w5 GD hxE
  simp only [List.drop_succ_cons, List.drop_zero]
  replace kr := GD.has kr
  replace kg1 := GD.has kg1
  replace kg2 := GD.has kg2
  replace kg3 := GD.has kg3
  replace kg4 := GD.has kg4
  replace GG := GG.drew.tg GD
  clear GD
  refine jI 29 rfl rfl (vFa) (jH _ _ _ rfl f.fi f.fn 0 0 rfl rfl false (hz) _) (mv 30 (vFa) ?_)
  refine nr ?_; intro U h; simp only [z0, z1] at h; subst h
  refine wpList_nil (jc (wp_cond_false rfl (wp_skip (jc (wp_seq (wp_seq ?_))))))
  refine jk (A := ?Ax9) 6 [(0, 32), (1, 33), (2, 34), (3, 35), (4, 36), (5, 37)] [.val (pK r 0), .val (pK r 0), .val (pK r 20), .val (.agg (c29 pi pn)), .val (pK g1 52), .val (.agg (c29 f.fi f.fn))] follows (by kernel_rfl) rfl ?hAx9 (ja ?o0x9 (ja ?o1x9 (ja ?o2x9 (ja ?o3x9 (ja ?o4x9 (ja ?o5x9 jw)))))) ?restx9
  case hAx9 =>
    intro ptrs
    simp only [full, foldSlots, filledE, postE, List.foldl_cons, List.foldl_nil, List.getD_cons_zero, List.getD_cons_succ, jr, List.set_cons_zero, List.set_cons_succ]
    exact rfl
  case o0x9 => exact fun _ _ _ _ => jg (v := pK r 0) _ rfl rfl rfl
  case o1x9 => exact fun _ _ hw _ => jb (v := pK r 0) rfl (jj _ rfl _ rfl)
  case o2x9 => exact fun _ _ hw _ => jb (v := pK r 20) rfl (jd 34 _ 4 rfl _ _ rfl _)
  case o3x9 => exact fun _ _ hw _ => jb (v := .agg (c29 pi pn)) rfl (jf 29 _ rfl r 20 2 rfl 34 _ (hw.has kr) _ Try.underlying29 rfl si29 _)
  case o4x9 => exact fun _ _ hw _ => jb (v := pK g1 52) rfl (jd 46 _ 6 rfl _ _ rfl _)
  case o5x9 => exact fun _ _ hw _ => jb (v := .agg (c29 f.fi f.fn)) rfl (jf 29 _ rfl g1 52 2 rfl 46 _ (hw.has kg1) _ Try.underlying29 rfl si29 _)
  intro ptrs w6 GD hxE
  simp only [List.drop_succ_cons, List.drop_zero]
  replace kr := GD.has kr
  replace kg1 := GD.has kg1
  replace kg2 := GD.has kg2
  replace kg3 := GD.has kg3
  replace kg4 := GD.has kg4
  replace GG := GG.drew.tg GD
  clear GD
  refine jz 38 rfl rfl _ 46 Try.call46 rfl rfl _ rfl [.agg (c29 pi pn), .agg (c29 f.fi f.fn)] rfl ((show lessN pi pn f.fi f.fn = false from hg) ▸ zj _ pi pn f.fi f.fn) ?_
  intro w7 G
  replace kr := G.has kr
  replace kg1 := G.has kg1
  replace kg2 := G.has kg2
  replace kg3 := G.has kg3
  replace kg4 := G.has kg4
  replace GG := GG.tg G
  clear G
  refine wpList_nil (jc (wp_cond_false rfl (wp_skip (jc (wp_seq (wp_seq ?_))))))
  refine jk (A := ?Ax10) 6 [(0, 65), (1, 66), (2, 67), (3, 68), (4, 69), (5, 70)] [.val (pK g1 54), .val (.agg (c29 f.ti f.tn)), .val (pK r 0), .val (pK r 0), .val (pK r 18), .val (.agg (c29 mi mn))] follows (by kernel_rfl) rfl ?hAx10 (ja ?o0x10 (ja ?o1x10 (ja ?o2x10 (ja ?o3x10 (ja ?o4x10 (ja ?o5x10 jw)))))) ?restx10
  case hAx10 =>
    intro ptrs
    simp only [full, foldSlots, filledE, postE, List.foldl_cons, List.foldl_nil, List.getD_cons_zero, List.getD_cons_succ, jr, List.set_cons_zero, List.set_cons_succ]
    exact rfl
  case o0x10 => exact fun _ _ hw _ => jb (v := pK g1 54) rfl (jd 46 _ 7 rfl _ _ rfl _)
  case o1x10 => exact fun _ _ hw _ => jb (v := .agg (c29 f.ti f.tn)) rfl (jf 29 _ rfl g1 54 2 rfl 46 _ (hw.has kg1) _ Try.underlying29 rfl si29 _)
  case o2x10 => exact fun _ _ _ _ => jg (v := pK r 0) _ rfl rfl rfl
  case o3x10 => exact fun _ _ hw _ => jb (v := pK r 0) rfl (jj _ rfl _ rfl)
  case o4x10 => exact fun _ _ hw _ => jb (v := pK r 18) rfl (jd 34 _ 3 rfl _ _ rfl _)
  case o5x10 => exact fun _ _ hw _ => jb (v := .agg (c29 mi mn)) rfl (jf 29 _ rfl r 18 2 rfl 34 _ (hw.has kr) _ Try.underlying29 rfl si29 _)
  intro ptrs w8 GD hxE
  simp only [List.drop_succ_cons, List.drop_zero]
  replace kr := GD.has kr
  replace kg1 := GD.has kg1
  replace kg2 := GD.has kg2
  replace kg3 := GD.has kg3
  replace kg4 := GD.has kg4
  replace GG := GG.drew.tg GD
  clear GD
  refine sv 71 (vTr) (jH _ _ _ rfl f.ti f.tn mi mn rfl rfl true (hs) _) (mv 72 (vTr) (jI 73 rfl rfl (pK r 0) (rfl) (jI 74 rfl rfl (pK r 0) (jj _ rfl _ rfl) ?_)))
  refine nr ?_; intro U h; simp only [z0, z1] at h; subst h
  refine jI 75 rfl rfl (pK r 17) (jd 34 _ 2 rfl _ _ rfl _) (jI 76 rfl rfl (vTr) (jh 4 _ rfl r 17 rfl 34 _ kr (na4 _) _ rfl) (jI 77 rfl rfl (vFa) (jE _ _ rfl true rfl) (mv 78 (vFa) (wpList_nil (jc (wp_cond_false rfl (wp_skip (jc (wp_seq ?_)))))))))
  refine jk (A := ?Ax11) 13 [(0, 83), (1, 84), (2, 85), (3, 86), (4, 87), (5, 88), (6, 89), (7, 90), (8, 91), (9, 92), (10, 93), (11, 94), (12, 95)] [.val (pK r 0), .val (pK r 0), .val (pK r 18), .val (.agg (c29 mi mn)), .val (pK r 0), .val (pK r 0), .val (pK r 20), .val (.agg (c29 pi pn)), .val (pK r 0), .val (pK r 0), .val (pK r 38), .val (pK r 40), .val (iK ((c : Nat) : Int))] follows (by kernel_rfl) rfl ?hAx11 (ja ?o0x11 (ja ?o1x11 (ja ?o2x11 (ja ?o3x11 (ja ?o4x11 (ja ?o5x11 (ja ?o6x11 (ja ?o7x11 (ja ?o8x11 (ja ?o9x11 (ja ?o10x11 (ja ?o11x11 (ja ?o12x11 jw))))))))))))) ?restx11
  case hAx11 =>
    intro ptrs
    simp only [full, foldSlots, filledE, postE, List.foldl_cons, List.foldl_nil, List.getD_cons_zero, List.getD_cons_succ, jr, List.set_cons_zero, List.set_cons_succ]
    exact rfl
  case o0x11 => exact fun _ _ _ _ => jg (v := pK r 0) _ rfl rfl rfl
  case o1x11 => exact fun _ _ hw _ => jb (v := pK r 0) rfl (jj _ rfl _ rfl)
  case o2x11 => exact fun _ _ hw _ => jb (v := pK r 18) rfl (jd 34 _ 3 rfl _ _ rfl _)
  case o3x11 => exact fun _ _ hw _ => jb (v := .agg (c29 mi mn)) rfl (jf 29 _ rfl r 18 2 rfl 34 _ (hw.has kr) _ Try.underlying29 rfl si29 _)
  case o4x11 => exact fun _ _ _ _ => jg (v := pK r 0) _ rfl rfl rfl
  case o5x11 => exact fun _ _ hw _ => jb (v := pK r 0) rfl (jj _ rfl _ rfl)
  case o6x11 => exact fun _ _ hw _ => jb (v := pK r 20) rfl (jd 34 _ 4 rfl _ _ rfl _)
  case o7x11 => exact fun _ _ hw _ => jb (v := .agg (c29 pi pn)) rfl (jf 29 _ rfl r 20 2 rfl 34 _ (hw.has kr) _ Try.underlying29 rfl si29 _)
  case o8x11 => exact fun _ _ _ _ => jg (v := pK r 0) _ rfl rfl rfl
  case o9x11 => exact fun _ _ hw _ => jb (v := pK r 0) rfl (jj _ rfl _ rfl)
  case o10x11 => exact fun _ _ hw _ => jb (v := pK r 38) rfl (jd 34 _ 6 rfl _ _ rfl _)
  case o11x11 => exact fun _ _ hw _ => jb (v := pK r 40) rfl (jd 32 _ 2 rfl _ _ rfl _)
  case o12x11 => exact fun _ _ hw _ => jb (v := iK ((c : Nat) : Int)) rfl (jh 2 _ rfl r 40 rfl 34 _ (hw.has kr) (na2 _) _ rfl)
  intro ptrs w9 GD hxE
  simp only [List.drop_succ_cons, List.drop_zero]
  replace kr := GD.has kr
  replace kg1 := GD.has kg1
  replace kg2 := GD.has kg2
  replace kg3 := GD.has kg3
  replace kg4 := GD.has kg4
  replace GG := GG.drew.tg GD
  clear GD
  refine sv 96 (.agg (c46 3 zF 0 false zF zF ((c : Nat) : Int) mi mn pi pn Sl.nil Sl.nil zF 0 zF Sl.nil 0 0 Sl.nil)) (jy 46 _ rfl [(0, iK 3), (6, .agg (c29 mi mn)), (7, .agg (c29 pi pn)), (5, iK ((c : Nat) : Int))] rfl _ (by kernel_rfl)) ?_
  refine nr ?_; intro U h; simp only [z0, z1] at h; subst h
  refine zk 97 rfl rfl 50 1 _ rfl [(0, .agg (c46 3 zF 0 false zF zF ((c : Nat) : Int) mi mn pi pn Sl.nil Sl.nil zF 0 zF Sl.nil 0 0 Sl.nil))] rfl (c46 3 zF 0 false zF zF ((c : Nat) : Int) mi mn pi pn Sl.nil Sl.nil zF 0 zF Sl.nil 0 0 Sl.nil) 46 (by kernel_rfl) ?_
  intro w10 g5 G eg5 kg5
  have bg5 := jl GG eg5
  have drg5 := je kr eg5
  have dg1g5 := je kg1 eg5
  have dg2g5 := je kg2 eg5
  have dg3g5 := je kg3 eg5
  have dg4g5 := je kg4 eg5
  replace kr := G.has kr
  replace kg1 := G.has kg1
  replace kg2 := G.has kg2
  replace kg3 := G.has kg3
  replace kg4 := G.has kg4
  replace GG := GG.tg G
  clear G eg5
  refine sv 98 (pK g4 4) (jd 62 _ 4 rfl _ _ rfl _) ?_
  refine jn rfl rfl 50 _ _ rfl g4 4 rfl (.slice (some ⟨g5, 0, none⟩) 1 1) rfl 62 _ kg4 #[.slice (some ⟨g5, 0, none⟩) 1 1] rfl (by kernel_rfl) (nlB rfl) (by kernel_rfl) (c62 false false Sl.nil false ⟨some ⟨g5, 0, none⟩, 1, 1⟩) (by kernel_rfl) ?_
  intro w12 St
  replace kr := St.has (by omega) kr
  replace kg1 := St.has (by omega) kg1
  replace kg2 := St.has (by omega) kg2
  replace kg3 := St.has (by omega) kg3
  replace kg5 := St.has (by omega) kg5
  replace GG := GG.st St (.inl bg4)
  replace kg4 := St.new
  clear St
  refine wpList_nil (jc (wp_seq ?_))
  refine jk (A := ?Ax12) 6 [(0, 99), (1, 100), (2, 101), (3, 102), (4, 103), (5, 104)] [.val (pK g1 54), .val (.agg (c29 f.ti f.tn)), .val (pK r 0), .val (pK r 0), .val (pK r 18), .val (.agg (c29 mi mn))] follows (by kernel_rfl) rfl ?hAx12 (ja ?o0x12 (ja ?o1x12 (ja ?o2x12 (ja ?o3x12 (ja ?o4x12 (ja ?o5x12 jw)))))) ?restx12
  case hAx12 =>
    intro ptrs
    simp only [full, foldSlots, filledE, postE, List.foldl_cons, List.foldl_nil, List.getD_cons_zero, List.getD_cons_succ, jr, List.set_cons_zero, List.set_cons_succ]
    exact rfl
  case o0x12 => exact fun _ _ hw _ => jb (v := pK g1 54) rfl (jd 46 _ 7 rfl _ _ rfl _)
  case o1x12 => exact fun _ _ hw _ => jb (v := .agg (c29 f.ti f.tn)) rfl (jf 29 _ rfl g1 54 2 rfl 46 _ (hw.has kg1) _ Try.underlying29 rfl si29 _)
  case o2x12 => exact fun _ _ _ _ => jg (v := pK r 0) _ rfl rfl rfl
  case o3x12 => exact fun _ _ hw _ => jb (v := pK r 0) rfl (jj _ rfl _ rfl)
  case o4x12 => exact fun _ _ hw _ => jb (v := pK r 18) rfl (jd 34 _ 3 rfl _ _ rfl _)
  case o5x12 => exact fun _ _ hw _ => jb (v := .agg (c29 mi mn)) rfl (jf 29 _ rfl r 18 2 rfl 34 _ (hw.has kr) _ Try.underlying29 rfl si29 _)
  intro ptrs w13 GD hxE
  simp only [List.drop_succ_cons, List.drop_zero]
  replace kr := GD.has kr
  replace kg1 := GD.has kg1
  replace kg2 := GD.has kg2
  replace kg3 := GD.has kg3
  replace kg4 := GD.has kg4
  replace kg5 := GD.has kg5
  replace GG := GG.drew.tg GD
  clear GD
  refine sv 105 (vFa) (zq _ _ _ rfl f.ti f.tn mi mn rfl rfl false (by rw [hs]; rfl) _) (mv 106 (vFa) (jI 107 rfl rfl (pK g4 1) (jd 62 _ 1 rfl _ _ rfl _) ?_))
  refine nr ?_; intro U h; simp only [z0, z1] at h; subst h
  refine jI 108 rfl rfl (vFa) (jh 4 _ rfl g4 1 rfl 62 _ kg4 (na4 _) _ rfl) (mv 109 (vFa) (wpList_nil (jc (wp_cond_false rfl (wp_skip (zh (jc (wp_seq (wp_region_lit (sv 203 (.agg (c62 false false Sl.nil false ⟨some ⟨g5, 0, none⟩, 1, 1⟩)) (jf 62 _ rfl g4 0 5 rfl 62 _ kg4 _ Try.underlying62 rfl si62 _) ?_))))))))))
  refine jn rfl rfl 62 _ _ rfl g3 0 rfl (.agg (c62 false false Sl.nil false ⟨some ⟨g5, 0, none⟩, 1, 1⟩)) rfl 62 _ kg3 (c62 false false Sl.nil false ⟨some ⟨g5, 0, none⟩, 1, 1⟩) rfl (by kernel_rfl) (nlB rfl) (by kernel_rfl) (c62 false false Sl.nil false ⟨some ⟨g5, 0, none⟩, 1, 1⟩) (by kernel_rfl) ?_
  intro w15 St
  replace kr := St.has (by omega) kr
  replace kg1 := St.has (by omega) kg1
  replace kg2 := St.has (by omega) kg2
  replace kg4 := St.has (by omega) kg4
  replace kg5 := St.has (by omega) kg5
  replace GG := GG.st St (.inl bg3)
  replace kg3 := St.new
  clear St
  refine wpList_nil (jc (wp_ret ?_))
  refine bodyPost_ret (results_cell_row Try.results22 _ _ g3 62 _ (0, 0) _ rfl kg3 Try.underlying62 rfl (by kernel_rfl)) rfl ?_
  exact ⟨_, (r :: blk so), (txb u), rfl, TV.one (f := pfr ⟨3, zF, mi, mn, pi, pn, ((c : Nat) : Int), []⟩ Sl.nil Sl.nil Sl.nil Sl.nil) kg5 (zQ _ _ _ _ _ _ _ _), ⟨B, so, sc, u, H.keep1 GG kr, hk, rfl, rfl, rfl⟩, GG.p1, Fresh.refl _ _, Fresh.refl _ _⟩
theorem vR (w : World) (r B : Nat) (id : Nat → Nat) (mi mn pi pn : Int) (oth : Nat → Nat) (so : Option Addr) (sc : Nat) (u : List RV) (k c : Nat) (H : WX 34 (c34 id true false mi mn pi pn oth ⟨so, u.length, sc⟩ ((k : Nat) : Int) ((c : Nat) : Int)) w r B so sc u) (hk : k ≤ u.length) (f : Fr) (ni nn : Int) (hf1 : f.kind = 1) (hl : lessN f.fi f.fn pi pn = false) (hz : (decide (f.fi = 0) && decide (f.fn = 0)) = false) (hg : lessN pi pn f.fi f.fn = false) (hs : (decide (f.ti = mi) && decide (f.tn = mn)) = true) : Calls Try.prog 22 #[pK r 0, .agg (frA f), .agg (c29 ni nn)] w (HearD w r id (r :: blk so) (txb u) (⟨true, true, mi, mn, pi, pn, oth, k, ((u.drop k).map (·.l)), c⟩, ⟨false, true, [], false, [⟨1, id, mi, mn, pi, pn, 0, []⟩]⟩)) := by
  refine jp Try.func22 rfl Try.ntmps22 [pK r 0, .agg (frA f), .agg (c29 ni nn)] ?_
  intro U h; simp only [List.length_cons, List.length_nil, List.cons_append, List.nil_append, Nat.reduceAdd, Nat.reduceSub, List.reduceReplicate] at h; subst h
  have GG := GroS.refl [r] w
  have kr := H.box
  have hpl := H.lt
  have hBl := H.bl
  refine wp_seq (wp_region_lit ?_)
  refine jB 4 rfl rfl 46 _ rfl _ rfl (frA f) rfl ?_
  intro w1 g1 G eg1 kg1
  have bg1 := jl GG eg1
  have drg1 := je kr eg1
  replace kr := G.has kr
  replace GG := GG.tg G
  clear G eg1
  refine jB 5 rfl rfl 29 _ rfl _ rfl (c29 ni nn) rfl ?_
  intro w2 g2 G eg2 kg2
  have bg2 := jl GG eg2
  have drg2 := je kr eg2
  have dg1g2 := je kg1 eg2
  replace kr := G.has kr
  replace kg1 := G.has kg1
  replace GG := GG.tg G
  clear G eg2
  refine jq 6 rfl rfl 62 rfl _ zv62 _ rfl ?_
  intro w3 g3 G eg3 kg3
  have bg3 := jl GG eg3
  have drg3 := je kr eg3
  have dg1g3 := je kg1 eg3
  have dg2g3 := je kg2 eg3
  replace kr := G.has kr
  replace kg1 := G.has kg1
  replace kg2 := G.has kg2
  replace GG := GG.tg G
  clear G eg3
  refine wpList_nil (jc (wp_seq (wp_region_lit ?_)))
  refine jq 7 rfl rfl 62 rfl _ zv62 _ rfl ?_
  intro w4 g4 G eg4 kg4
  have bg4 := jl GG eg4
  have drg4 := je kr eg4
  have dg1g4 := je kg1 eg4
  have dg2g4 := je kg2 eg4
  have dg3g4 := je kg3 eg4
  replace kr := G.has kr
  replace kg1 := G.has kg1
  replace kg2 := G.has kg2
  replace kg3 := G.has kg3
  replace GG := GG.tg G
  clear G eg4
  refine wpList_nil (jc (wp_seq (wp_seq (wp_region_lit (mv 8 (pK r 0) ?_)))))
  refine nr ?_; intro U h; simp only [z0, z1] at h; subst h
  refine sv 9 (pK r 0) (jj _ rfl _ rfl) (sv 10 (pK r 16) (jd 34 _ 1 rfl _ _ rfl _) (sv 11 (vTr) (jh 4 _ rfl r 16 rfl 34 _ kr (na4 _) _ rfl) (sv 12 (vFa) (jE _ _ rfl true rfl) (wpList_nil (jc (wp_cond_false rfl (wp_skip (jc (wp_seq (wp_seq (wp_region_lit (sv 14 (pK g1 0) (jd 46 _ 0 rfl _ _ rfl _) ?_))))))))))))
  refine nr ?_; intro U h; simp only [z0, z1] at h; subst h
  refine sv 15 (iK f.kind) (jh 3 _ rfl g1 0 rfl 46 _ kg1 (na3 _) _ rfl) (wpList_nil (jc (wp_block (wp_seq (wp_region_lit (sv 17 (vTr) (jo 3 .i64 _ _ _ rfl Try.underlying3 f.kind 1 rfl rfl true (decide_eq_true hf1) _) (mv 16 (vTr) (wpList_nil (jc (wp_cond_true rfl (wp_seq (wp_seq ?_))))))))))))
  refine jk (A := ?Ax13) 11 [(0, 18), (1, 19), (2, 20), (3, 21), (4, 22), (5, 23), (6, 24), (7, 25), (8, 26), (9, 27), (10, 28)] [.val (pK g1 52), .val (.agg (c29 f.fi f.fn)), .val (pK r 0), .val (pK r 0), .val (pK r 20), .val (.agg (c29 pi pn)), .val (vFa), .val (vFa), .val (pK g1 52), .val (.agg (c29 f.fi f.fn)), .val (.agg (c29 0 0))] follows (by kernel_rfl) rfl ?hAx13 (ja ?o0x13 (ja ?o1x13 (ja ?o2x13 (ja ?o3x13 (ja ?o4x13 (ja ?o5x13 (ja ?o6x13 (ja ?o7x13 (ja ?o8x13 (ja ?o9x13 (ja ?o10x13 jw))))))))))) ?restx13
  case hAx13 =>
    intro ptrs
    simp only [full, foldSlots, filledE, postE, List.foldl_cons, List.foldl_nil, List.getD_cons_zero, List.getD_cons_succ, jr, List.set_cons_zero, List.set_cons_succ]
    exact rfl
  case o0x13 => exact fun _ _ hw _ => jb (v := pK g1 52) rfl (jd 46 _ 6 rfl _ _ rfl _)
  case o1x13 => exact fun _ _ hw _ => jb (v := .agg (c29 f.fi f.fn)) rfl (jf 29 _ rfl g1 52 2 rfl 46 _ (hw.has kg1) _ Try.underlying29 rfl si29 _)
  case o2x13 => exact fun _ _ _ _ => jg (v := pK r 0) _ rfl rfl rfl
  case o3x13 => exact fun _ _ hw _ => jb (v := pK r 0) rfl (jj _ rfl _ rfl)
  case o4x13 => exact fun _ _ hw _ => jb (v := pK r 20) rfl (jd 34 _ 4 rfl _ _ rfl _)
  case o5x13 => exact fun _ _ hw _ => jb (v := .agg (c29 pi pn)) rfl (jf 29 _ rfl r 20 2 rfl 34 _ (hw.has kr) _ Try.underlying29 rfl si29 _)
  case o6x13 => exact fun _ _ hw _ => jT (.val (vFa)) rfl _ 46 Try.call46 rfl rfl _ rfl [.agg (c29 f.fi f.fn), .agg (c29 pi pn)] rfl (((show lessN f.fi f.fn pi pn = false from hl) ▸ zj _ f.fi f.fn pi pn).mono fun e w' ⟨he, hg⟩ => ⟨_, he, hg, rfl⟩)
  case o7x13 => exact fun _ _ _ _ => jg (v := vFa) _ rfl rfl rfl
  case o8x13 => exact fun _ _ hw _ => jb (v := pK g1 52) rfl (jd 46 _ 6 rfl _ _ rfl _)
  case o9x13 => exact fun _ _ hw _ => jb (v := .agg (c29 f.fi f.fn)) rfl (jf 29 _ rfl g1 52 2 rfl 46 _ (hw.has kg1) _ Try.underlying29 rfl si29 _)
  case o10x13 => exact fun _ _ hw _ => jb (v := .agg (c29 0 0)) rfl (jy 29 _ rfl [] rfl _ (by kernel_rfl))
  intro ptrs w5 GD hxE
  simp only [List.drop_succ_cons, List.drop_zero]
  replace kr := GD.has kr
  replace kg1 := GD.has kg1
  replace kg2 := GD.has kg2
  replace kg3 := GD.has kg3
  replace kg4 := GD.has kg4
  replace GG := GG.drew.tg GD
  clear GD
  refine jI 29 rfl rfl (vFa) (jH _ _ _ rfl f.fi f.fn 0 0 rfl rfl false (hz) _) (mv 30 (vFa) ?_)
  refine nr ?_; intro U h; simp only [z0, z1] at h; subst h
  refine wpList_nil (jc (wp_cond_false rfl (wp_skip (jc (wp_seq (wp_seq ?_))))))
  refine jk (A := ?Ax14) 6 [(0, 32), (1, 33), (2, 34), (3, 35), (4, 36), (5, 37)] [.val (pK r 0), .val (pK r 0), .val (pK r 20), .val (.agg (c29 pi pn)), .val (pK g1 52), .val (.agg (c29 f.fi f.fn))] follows (by kernel_rfl) rfl ?hAx14 (ja ?o0x14 (ja ?o1x14 (ja ?o2x14 (ja ?o3x14 (ja ?o4x14 (ja ?o5x14 jw)))))) ?restx14
  case hAx14 =>
    intro ptrs
    simp only [full, foldSlots, filledE, postE, List.foldl_cons, List.foldl_nil, List.getD_cons_zero, List.getD_cons_succ, jr, List.set_cons_zero, List.set_cons_succ]
    exact rfl
  case o0x14 => exact fun _ _ _ _ => jg (v := pK r 0) _ rfl rfl rfl
  case o1x14 => exact fun _ _ hw _ => jb (v := pK r 0) rfl (jj _ rfl _ rfl)
  case o2x14 => exact fun _ _ hw _ => jb (v := pK r 20) rfl (jd 34 _ 4 rfl _ _ rfl _)
  case o3x14 => exact fun _ _ hw _ => jb (v := .agg (c29 pi pn)) rfl (jf 29 _ rfl r 20 2 rfl 34 _ (hw.has kr) _ Try.underlying29 rfl si29 _)
  case o4x14 => exact fun _ _ hw _ => jb (v := pK g1 52) rfl (jd 46 _ 6 rfl _ _ rfl _)
  case o5x14 => exact fun _ _ hw _ => jb (v := .agg (c29 f.fi f.fn)) rfl (jf 29 _ rfl g1 52 2 rfl 46 _ (hw.has kg1) _ Try.underlying29 rfl si29 _)
  intro ptrs w6 GD hxE
  simp only [List.drop_succ_cons, List.drop_zero]
  replace kr := GD.has kr
  replace kg1 := GD.has kg1
  replace kg2 := GD.has kg2
  replace kg3 := GD.has kg3
  replace kg4 := GD.has kg4
  replace GG := GG.drew.tg GD
  clear GD
  refine jz 38 rfl rfl _ 46 Try.call46 rfl rfl _ rfl [.agg (c29 pi pn), .agg (c29 f.fi f.fn)] rfl ((show lessN pi pn f.fi f.fn = false from hg) ▸ zj _ pi pn f.fi f.fn) ?_
  intro w7 G
  replace kr := G.has kr
  replace kg1 := G.has kg1
  replace kg2 := G.has kg2
  replace kg3 := G.has kg3
  replace kg4 := G.has kg4
  replace GG := GG.tg G
  clear G
  refine wpList_nil (jc (wp_cond_false rfl (wp_skip (jc (wp_seq (wp_seq ?_))))))
  refine jk (A := ?Ax15) 6 [(0, 65), (1, 66), (2, 67), (3, 68), (4, 69), (5, 70)] [.val (pK g1 54), .val (.agg (c29 f.ti f.tn)), .val (pK r 0), .val (pK r 0), .val (pK r 18), .val (.agg (c29 mi mn))] follows (by kernel_rfl) rfl ?hAx15 (ja ?o0x15 (ja ?o1x15 (ja ?o2x15 (ja ?o3x15 (ja ?o4x15 (ja ?o5x15 jw)))))) ?restx15
  case hAx15 =>
    intro ptrs
    simp only [full, foldSlots, filledE, postE, List.foldl_cons, List.foldl_nil, List.getD_cons_zero, List.getD_cons_succ, jr, List.set_cons_zero, List.set_cons_succ]
    exact rfl
  case o0x15 => exact fun _ _ hw _ => jb (v := pK g1 54) rfl (jd 46 _ 7 rfl _ _ rfl _)
  case o1x15 => exact fun _ _ hw _ => jb (v := .agg (c29 f.ti f.tn)) rfl (jf 29 _ rfl g1 54 2 rfl 46 _ (hw.has kg1) _ Try.underlying29 rfl si29 _)
  case o2x15 => exact fun _ _ _ _ => jg (v := pK r 0) _ rfl rfl rfl
  case o3x15 => exact fun _ _ hw _ => jb (v := pK r 0) rfl (jj _ rfl _ rfl)
  case o4x15 => exact fun _ _ hw _ => jb (v := pK r 18) rfl (jd 34 _ 3 rfl _ _ rfl _)
  case o5x15 => exact fun _ _ hw _ => jb (v := .agg (c29 mi mn)) rfl (jf 29 _ rfl r 18 2 rfl 34 _ (hw.has kr) _ Try.underlying29 rfl si29 _)
  intro ptrs w8 GD hxE
  simp only [List.drop_succ_cons, List.drop_zero]
  replace kr := GD.has kr
  replace kg1 := GD.has kg1
  replace kg2 := GD.has kg2
  replace kg3 := GD.has kg3
  replace kg4 := GD.has kg4
  replace GG := GG.drew.tg GD
  clear GD
  refine sv 71 (vTr) (jH _ _ _ rfl f.ti f.tn mi mn rfl rfl true (hs) _) (mv 72 (vTr) (jI 73 rfl rfl (pK r 0) (rfl) (jI 74 rfl rfl (pK r 0) (jj _ rfl _ rfl) ?_)))
  refine nr ?_; intro U h; simp only [z0, z1] at h; subst h
  refine jI 75 rfl rfl (pK r 17) (jd 34 _ 2 rfl _ _ rfl _) (jI 76 rfl rfl (vFa) (jh 4 _ rfl r 17 rfl 34 _ kr (na4 _) _ rfl) (jI 77 rfl rfl (vTr) (jE _ _ rfl false rfl) (mv 78 (vTr) (wpList_nil (jc (wp_cond_true rfl (wp_region_lit (mv 79 (pK r 0) ?_))))))))
  refine nr ?_; intro U h; simp only [z0, z1] at h; subst h
  refine sv 80 (pK r 0) (jj _ rfl _ rfl) (sv 81 (pK r 17) (jd 34 _ 2 rfl _ _ rfl _) ?_)
  refine jn rfl rfl 4 _ _ rfl r 17 rfl (vTr) rfl 34 _ kr #[vTr] rfl (by kernel_rfl) (nlB rfl) (by kernel_rfl) (c34 id true true mi mn pi pn oth ⟨so, u.length, sc⟩ ((k : Nat) : Int) ((c : Nat) : Int)) (by kernel_rfl) ?_
  intro w10 St
  replace kg1 := St.has (by omega) kg1
  replace kg2 := St.has (by omega) kg2
  replace kg3 := St.has (by omega) kg3
  replace kg4 := St.has (by omega) kg4
  replace GG := GG.st St (.inr (by simp))
  replace kr := St.new
  clear St
  refine sv 82 (pK g4 1) (jd 62 _ 1 rfl _ _ rfl _) ?_
  refine jn rfl rfl 4 _ _ rfl g4 1 rfl (vTr) rfl 62 _ kg4 #[vTr] rfl (by kernel_rfl) (nlB rfl) (by kernel_rfl) (c62 false true Sl.nil false Sl.nil) (by kernel_rfl) ?_
  intro w12 St
  replace kr := St.has (by omega) kr
  replace kg1 := St.has (by omega) kg1
  replace kg2 := St.has (by omega) kg2
  replace kg3 := St.has (by omega) kg3
  replace GG := GG.st St (.inl bg4)
  replace kg4 := St.new
  clear St
  refine wpList_nil (jc (wp_seq ?_))
  refine jk (A := ?Ax16) 13 [(0, 83), (1, 84), (2, 85), (3, 86), (4, 87), (5, 88), (6, 89), (7, 90), (8, 91), (9, 92), (10, 93), (11, 94), (12, 95)] [.val (pK r 0), .val (pK r 0), .val (pK r 18), .val (.agg (c29 mi mn)), .val (pK r 0), .val (pK r 0), .val (pK r 20), .val (.agg (c29 pi pn)), .val (pK r 0), .val (pK r 0), .val (pK r 38), .val (pK r 40), .val (iK ((c : Nat) : Int))] follows (by kernel_rfl) rfl ?hAx16 (ja ?o0x16 (ja ?o1x16 (ja ?o2x16 (ja ?o3x16 (ja ?o4x16 (ja ?o5x16 (ja ?o6x16 (ja ?o7x16 (ja ?o8x16 (ja ?o9x16 (ja ?o10x16 (ja ?o11x16 (ja ?o12x16 jw))))))))))))) ?restx16
  case hAx16 =>
    intro ptrs
    simp only [full, foldSlots, filledE, postE, List.foldl_cons, List.foldl_nil, List.getD_cons_zero, List.getD_cons_succ, jr, List.set_cons_zero, List.set_cons_succ]
    exact rfl
  case o0x16 => exact fun _ _ _ _ => jg (v := pK r 0) _ rfl rfl rfl
  case o1x16 => exact fun _ _ hw _ => jb (v := pK r 0) rfl (jj _ rfl _ rfl)
  case o2x16 => exact fun _ _ hw _ => jb (v := pK r 18) rfl (jd 34 _ 3 rfl _ _ rfl _)
  case o3x16 => exact fun _ _ hw _ => jb (v := .agg (c29 mi mn)) rfl (jf 29 _ rfl r 18 2 rfl 34 _ (hw.has kr) _ Try.underlying29 rfl si29 _)
  case o4x16 => exact fun _ _ _ _ => jg (v := pK r 0) _ rfl rfl rfl
  case o5x16 => exact fun _ _ hw _ => jb (v := pK r 0) rfl (jj _ rfl _ rfl)
  case o6x16 => exact fun _ _ hw _ => jb (v := pK r 20) rfl (jd 34 _ 4 rfl _ _ rfl _)
  case o7x16 => exact fun _ _ hw _ => jb (v := .agg (c29 pi pn)) rfl (jf 29 _ rfl r 20 2 rfl 34 _ (hw.has kr) _ Try.underlying29 rfl si29 _)
  case o8x16 => exact fun _ _ _ _ => jg (v := pK r 0) _ rfl rfl rfl
  case o9x16 => exact fun _ _ hw _ => jb (v := pK r 0) rfl (jj _ rfl _ rfl)
  case o10x16 => exact fun _ _ hw _ => jb (v := pK r 38) rfl (jd 34 _ 6 rfl _ _ rfl _)
  case o11x16 => exact fun _ _ hw _ => jb (v := pK r 40) rfl (jd 32 _ 2 rfl _ _ rfl _)
  case o12x16 => exact fun _ _ hw _ => jb (v := iK ((c : Nat) : Int)) rfl (jh 2 _ rfl r 40 rfl 34 _ (hw.has kr) (na2 _) _ rfl)
  intro ptrs w13 GD hxE
  simp only [List.drop_succ_cons, List.drop_zero]
  replace kr := GD.has kr
  replace kg1 := GD.has kg1
  replace kg2 := GD.has kg2
  replace kg3 := GD.has kg3
  replace kg4 := GD.has kg4
  replace GG := GG.drew.tg GD
  clear GD
  refine sv 96 (.agg (c46 3 zF 0 false zF zF ((c : Nat) : Int) mi mn pi pn Sl.nil Sl.nil zF 0 zF Sl.nil 0 0 Sl.nil)) (jy 46 _ rfl [(0, iK 3), (6, .agg (c29 mi mn)), (7, .agg (c29 pi pn)), (5, iK ((c : Nat) : Int))] rfl _ (by kernel_rfl)) ?_
  refine zk 97 rfl rfl 50 1 _ rfl [(0, .agg (c46 3 zF 0 false zF zF ((c : Nat) : Int) mi mn pi pn Sl.nil Sl.nil zF 0 zF Sl.nil 0 0 Sl.nil))] rfl (c46 3 zF 0 false zF zF ((c : Nat) : Int) mi mn pi pn Sl.nil Sl.nil zF 0 zF Sl.nil 0 0 Sl.nil) 46 (by kernel_rfl) ?_
  intro w14 g5 G eg5 kg5
  have bg5 := jl GG eg5
  have drg5 := je kr eg5
  have dg1g5 := je kg1 eg5
  have dg2g5 := je kg2 eg5
  have dg3g5 := je kg3 eg5
  have dg4g5 := je kg4 eg5
  replace kr := G.has kr
  replace kg1 := G.has kg1
  replace kg2 := G.has kg2
  replace kg3 := G.has kg3
  replace kg4 := G.has kg4
  replace GG := GG.tg G
  clear G eg5
  refine nr ?_; intro U h; simp only [z0, z1] at h; subst h
  refine sv 98 (pK g4 4) (jd 62 _ 4 rfl _ _ rfl _) ?_
  refine jn rfl rfl 50 _ _ rfl g4 4 rfl (.slice (some ⟨g5, 0, none⟩) 1 1) rfl 62 _ kg4 #[.slice (some ⟨g5, 0, none⟩) 1 1] rfl (by kernel_rfl) (nlB rfl) (by kernel_rfl) (c62 false true Sl.nil false ⟨some ⟨g5, 0, none⟩, 1, 1⟩) (by kernel_rfl) ?_
  intro w16 St
  replace kr := St.has (by omega) kr
  replace kg1 := St.has (by omega) kg1
  replace kg2 := St.has (by omega) kg2
  replace kg3 := St.has (by omega) kg3
  replace kg5 := St.has (by omega) kg5
  replace GG := GG.st St (.inl bg4)
  replace kg4 := St.new
  clear St
  refine wpList_nil (jc (wp_seq ?_))
  refine jk (A := ?Ax17) 6 [(0, 99), (1, 100), (2, 101), (3, 102), (4, 103), (5, 104)] [.val (pK g1 54), .val (.agg (c29 f.ti f.tn)), .val (pK r 0), .val (pK r 0), .val (pK r 18), .val (.agg (c29 mi mn))] follows (by kernel_rfl) rfl ?hAx17 (ja ?o0x17 (ja ?o1x17 (ja ?o2x17 (ja ?o3x17 (ja ?o4x17 (ja ?o5x17 jw)))))) ?restx17
  case hAx17 =>
    intro ptrs
    simp only [full, foldSlots, filledE, postE, List.foldl_cons, List.foldl_nil, List.getD_cons_zero, List.getD_cons_succ, jr, List.set_cons_zero, List.set_cons_succ]
    exact rfl
  case o0x17 => exact fun _ _ hw _ => jb (v := pK g1 54) rfl (jd 46 _ 7 rfl _ _ rfl _)
  case o1x17 => exact fun _ _ hw _ => jb (v := .agg (c29 f.ti f.tn)) rfl (jf 29 _ rfl g1 54 2 rfl 46 _ (hw.has kg1) _ Try.underlying29 rfl si29 _)
  case o2x17 => exact fun _ _ _ _ => jg (v := pK r 0) _ rfl rfl rfl
  case o3x17 => exact fun _ _ hw _ => jb (v := pK r 0) rfl (jj _ rfl _ rfl)
  case o4x17 => exact fun _ _ hw _ => jb (v := pK r 18) rfl (jd 34 _ 3 rfl _ _ rfl _)
  case o5x17 => exact fun _ _ hw _ => jb (v := .agg (c29 mi mn)) rfl (jf 29 _ rfl r 18 2 rfl 34 _ (hw.has kr) _ Try.underlying29 rfl si29 _)
  intro ptrs w17 GD hxE
  simp only [List.drop_succ_cons, List.drop_zero]
  replace kr := GD.has kr
  replace kg1 := GD.has kg1
  replace kg2 := GD.has kg2
  replace kg3 := GD.has kg3
  replace kg4 := GD.has kg4
  replace kg5 := GD.has kg5
  replace GG := GG.drew.tg GD
  clear GD
  refine sv 105 (vFa) (zq _ _ _ rfl f.ti f.tn mi mn rfl rfl false (by rw [hs]; rfl) _) (mv 106 (vFa) (jI 107 rfl rfl (pK g4 1) (jd 62 _ 1 rfl _ _ rfl _) (jI 108 rfl rfl (vTr) (jh 4 _ rfl g4 1 rfl 62 _ kg4 (na4 _) _ rfl) ?_)))
  refine nr ?_; intro U h; simp only [z0, z1] at h; subst h
  refine mv 109 (vTr) (wpList_nil (jc (wp_cond_true rfl (wp_region_lit (mv 110 (pK r 0) ?_)))))
  refine jz 111 rfl rfl _ 36 Try.call36 rfl rfl _ rfl [pK r 0] rfl (zE _ r B id true true mi mn pi pn oth so sc u k c (H.keep1 GG kr)) ?_
  intro w18 G
  replace kr := G.has kr
  replace kg1 := G.has kg1
  replace kg2 := G.has kg2
  replace kg3 := G.has kg3
  replace kg4 := G.has kg4
  replace kg5 := G.has kg5
  replace GG := GG.tg G
  clear G
  refine zk 112 rfl rfl 50 1 _ rfl [(0, .agg (c46 1 zF 0 false id zF 0 mi mn pi pn Sl.nil Sl.nil zF 0 zF Sl.nil 0 0 Sl.nil))] rfl (c46 1 zF 0 false id zF 0 mi mn pi pn Sl.nil Sl.nil zF 0 zF Sl.nil 0 0 Sl.nil) 46 (by kernel_rfl) ?_
  intro w19 g6 G eg6 kg6
  have bg6 := jl GG eg6
  have drg6 := je kr eg6
  have dg1g6 := je kg1 eg6
  have dg2g6 := je kg2 eg6
  have dg3g6 := je kg3 eg6
  have dg4g6 := je kg4 eg6
  have dg5g6 := je kg5 eg6
  replace kr := G.has kr
  replace kg1 := G.has kg1
  replace kg2 := G.has kg2
  replace kg3 := G.has kg3
  replace kg4 := G.has kg4
  replace kg5 := G.has kg5
  replace GG := GG.tg G
  clear G eg6
  refine sv 113 (pK g4 4) (jd 62 _ 4 rfl _ _ rfl _) ?_
  refine nr ?_; intro U h; simp only [z0, z1] at h; subst h
  refine jn rfl rfl 50 _ _ rfl g4 4 rfl (.slice (some ⟨g6, 0, none⟩) 1 1) rfl 62 _ kg4 #[.slice (some ⟨g6, 0, none⟩) 1 1] rfl (by kernel_rfl) (nlB rfl) (by kernel_rfl) (c62 false true Sl.nil false ⟨some ⟨g6, 0, none⟩, 1, 1⟩) (by kernel_rfl) ?_
  intro w21 St
  replace kr := St.has (by omega) kr
  replace kg1 := St.has (by omega) kg1
  replace kg2 := St.has (by omega) kg2
  replace kg3 := St.has (by omega) kg3
  replace kg5 := St.has (by omega) kg5
  replace kg6 := St.has (by omega) kg6
  replace GG := GG.st St (.inl bg4)
  replace kg4 := St.new
  clear St
  refine wpList_nil (zh (jc (wp_seq (wp_region_lit (sv 203 (.agg (c62 false true Sl.nil false ⟨some ⟨g6, 0, none⟩, 1, 1⟩)) (jf 62 _ rfl g4 0 5 rfl 62 _ kg4 _ Try.underlying62 rfl si62 _) ?_)))))
  refine jn rfl rfl 62 _ _ rfl g3 0 rfl (.agg (c62 false true Sl.nil false ⟨some ⟨g6, 0, none⟩, 1, 1⟩)) rfl 62 _ kg3 (c62 false true Sl.nil false ⟨some ⟨g6, 0, none⟩, 1, 1⟩) rfl (by kernel_rfl) (nlB rfl) (by kernel_rfl) (c62 false true Sl.nil false ⟨some ⟨g6, 0, none⟩, 1, 1⟩) (by kernel_rfl) ?_
  intro w23 St
  replace kr := St.has (by omega) kr
  replace kg1 := St.has (by omega) kg1
  replace kg2 := St.has (by omega) kg2
  replace kg4 := St.has (by omega) kg4
  replace kg5 := St.has (by omega) kg5
  replace kg6 := St.has (by omega) kg6
  replace GG := GG.st St (.inl bg3)
  replace kg3 := St.new
  clear St
  refine wpList_nil (jc (wp_ret ?_))
  refine bodyPost_ret (results_cell_row Try.results22 _ _ g3 62 _ (0, 0) _ rfl kg3 Try.underlying62 rfl (by kernel_rfl)) rfl ?_
  exact ⟨_, (r :: blk so), (txb u), rfl, TV.one (f := pfr ⟨1, id, mi, mn, pi, pn, 0, []⟩ Sl.nil Sl.nil Sl.nil Sl.nil) kg6 (zQ _ _ _ _ _ _ _ _), ⟨B, so, sc, u, H.keep1 GG kr, hk, rfl, rfl, rfl⟩, GG.p1, Fresh.refl _ _, Fresh.refl _ _⟩
theorem Ja (w : World) (r B : Nat) (id : Nat → Nat) (mi mn pi pn : Int) (oth : Nat → Nat) (so : Option Addr) (sc : Nat) (u : List RV) (k c : Nat) (H : WX 34 (c34 id true false mi mn pi pn oth ⟨so, u.length, sc⟩ ((k : Nat) : Int) ((c : Nat) : Int)) w r B so sc u) (_hk : k ≤ u.length) (f : Fr) (ni nn : Int) (hf1 : f.kind = 1) (hl : lessN f.fi f.fn pi pn = false) (hz : (decide (f.fi = 0) && decide (f.fn = 0)) = false) (hg : lessN pi pn f.fi f.fn = true) (hs : (decide (f.ti = mi) && decide (f.tn = mn)) = false) : Calls Try.prog 22 #[pK r 0, .agg (frA f), .agg (c29 ni nn)] w (HearD w r id (r :: blk so) (txb u) (⟨true, false, mi, mn, f.fi, f.fn, f.a, 0, [], 0⟩, ⟨false, false, [], false, [⟨1, id, mi, mn, f.fi, f.fn, 0, []⟩]⟩)) := by
  refine jp Try.func22 rfl Try.ntmps22 [pK r 0, .agg (frA f), .agg (c29 ni nn)] ?_
  intro U h; simp only [List.length_cons, List.length_nil, List.cons_append, List.nil_append, Nat.reduceAdd, Nat.reduceSub, List.reduceReplicate] at h; subst h
  have GG := GroS.refl [r] w
  have kr := H.box
  have hpl := H.lt
  have hBl := H.bl
  refine wp_seq (wp_region_lit ?_)
  refine jB 4 rfl rfl 46 _ rfl _ rfl (frA f) rfl ?_
  intro w1 g1 G eg1 kg1
  have bg1 := jl GG eg1
  have drg1 := je kr eg1
  replace kr := G.has kr
  replace GG := GG.tg G
  clear G eg1
  refine jB 5 rfl rfl 29 _ rfl _ rfl (c29 ni nn) rfl ?_
  intro w2 g2 G eg2 kg2
  have bg2 := jl GG eg2
  have drg2 := je kr eg2
  have dg1g2 := je kg1 eg2
  replace kr := G.has kr
  replace kg1 := G.has kg1
  replace GG := GG.tg G
  clear G eg2
  refine jq 6 rfl rfl 62 rfl _ zv62 _ rfl ?_
  intro w3 g3 G eg3 kg3
  have bg3 := jl GG eg3
  have drg3 := je kr eg3
  have dg1g3 := je kg1 eg3
  have dg2g3 := je kg2 eg3
  replace kr := G.has kr
  replace kg1 := G.has kg1
  replace kg2 := G.has kg2
  replace GG := GG.tg G
  clear G eg3
  refine wpList_nil (jc (wp_seq (wp_region_lit ?_)))
  refine jq 7 rfl rfl 62 rfl _ zv62 _ rfl ?_
  intro w4 g4 G eg4 kg4
  have bg4 := jl GG eg4
  have drg4 := je kr eg4
  have dg1g4 := je kg1 eg4
  have dg2g4 := je kg2 eg4
  have dg3g4 := je kg3 eg4
  replace kr := G.has kr
  replace kg1 := G.has kg1
  replace kg2 := G.has kg2
  replace kg3 := G.has kg3
  replace GG := GG.tg G
  clear G eg4
  refine wpList_nil (jc (wp_seq (wp_seq (wp_region_lit (mv 8 (pK r 0) ?_)))))
  refine nr ?_; intro U h; simp only [z0, z1] at h; subst h
  refine sv 9 (pK r 0) (jj _ rfl _ rfl) (sv 10 (pK r 16) (jd 34 _ 1 rfl _ _ rfl _) (sv 11 (vTr) (jh 4 _ rfl r 16 rfl 34 _ kr (na4 _) _ rfl) (sv 12 (vFa) (jE _ _ rfl true rfl) (wpList_nil (jc (wp_cond_false rfl (wp_skip (jc (wp_seq (wp_seq (wp_region_lit (sv 14 (pK g1 0) (jd 46 _ 0 rfl _ _ rfl _) ?_))))))))))))
  refine nr ?_; intro U h; simp only [z0, z1] at h; subst h
  refine sv 15 (iK f.kind) (jh 3 _ rfl g1 0 rfl 46 _ kg1 (na3 _) _ rfl) (wpList_nil (jc (wp_block (wp_seq (wp_region_lit (sv 17 (vTr) (jo 3 .i64 _ _ _ rfl Try.underlying3 f.kind 1 rfl rfl true (decide_eq_true hf1) _) (mv 16 (vTr) (wpList_nil (jc (wp_cond_true rfl (wp_seq (wp_seq ?_))))))))))))
  refine jk (A := ?Ax18) 11 [(0, 18), (1, 19), (2, 20), (3, 21), (4, 22), (5, 23), (6, 24), (7, 25), (8, 26), (9, 27), (10, 28)] [.val (pK g1 52), .val (.agg (c29 f.fi f.fn)), .val (pK r 0), .val (pK r 0), .val (pK r 20), .val (.agg (c29 pi pn)), .val (vFa), .val (vFa), .val (pK g1 52), .val (.agg (c29 f.fi f.fn)), .val (.agg (c29 0 0))] follows (by kernel_rfl) rfl ?hAx18 (ja ?o0x18 (ja ?o1x18 (ja ?o2x18 (ja ?o3x18 (ja ?o4x18 (ja ?o5x18 (ja ?o6x18 (ja ?o7x18 (ja ?o8x18 (ja ?o9x18 (ja ?o10x18 jw))))))))))) ?restx18
  case hAx18 =>
    intro ptrs
    simp only [full, foldSlots, filledE, postE, List.foldl_cons, List.foldl_nil, List.getD_cons_zero, List.getD_cons_succ, jr, List.set_cons_zero, List.set_cons_succ]
    exact rfl
  case o0x18 => exact fun _ _ hw _ => jb (v := pK g1 52) rfl (jd 46 _ 6 rfl _ _ rfl _)
  case o1x18 => exact fun _ _ hw _ => jb (v := .agg (c29 f.fi f.fn)) rfl (jf 29 _ rfl g1 52 2 rfl 46 _ (hw.has kg1) _ Try.underlying29 rfl si29 _)
  case o2x18 => exact fun _ _ _ _ => jg (v := pK r 0) _ rfl rfl rfl
  case o3x18 => exact fun _ _ hw _ => jb (v := pK r 0) rfl (jj _ rfl _ rfl)
  case o4x18 => exact fun _ _ hw _ => jb (v := pK r 20) rfl (jd 34 _ 4 rfl _ _ rfl _)
  case o5x18 => exact fun _ _ hw _ => jb (v := .agg (c29 pi pn)) rfl (jf 29 _ rfl r 20 2 rfl 34 _ (hw.has kr) _ Try.underlying29 rfl si29 _)
  case o6x18 => exact fun _ _ hw _ => jT (.val (vFa)) rfl _ 46 Try.call46 rfl rfl _ rfl [.agg (c29 f.fi f.fn), .agg (c29 pi pn)] rfl (((show lessN f.fi f.fn pi pn = false from hl) ▸ zj _ f.fi f.fn pi pn).mono fun e w' ⟨he, hg⟩ => ⟨_, he, hg, rfl⟩)
  case o7x18 => exact fun _ _ _ _ => jg (v := vFa) _ rfl rfl rfl
  case o8x18 => exact fun _ _ hw _ => jb (v := pK g1 52) rfl (jd 46 _ 6 rfl _ _ rfl _)
  case o9x18 => exact fun _ _ hw _ => jb (v := .agg (c29 f.fi f.fn)) rfl (jf 29 _ rfl g1 52 2 rfl 46 _ (hw.has kg1) _ Try.underlying29 rfl si29 _)
  case o10x18 => exact fun _ _ hw _ => jb (v := .agg (c29 0 0)) rfl (jy 29 _ rfl [] rfl _ (by kernel_rfl))
  intro ptrs w5 GD hxE
  simp only [List.drop_succ_cons, List.drop_zero]
  replace kr := GD.has kr
  replace kg1 := GD.has kg1
  replace kg2 := GD.has kg2
  replace kg3 := GD.has kg3
  replace kg4 := GD.has kg4
  replace GG := GG.drew.tg GD
  clear GD
  refine jI 29 rfl rfl (vFa) (jH _ _ _ rfl f.fi f.fn 0 0 rfl rfl false (hz) _) (mv 30 (vFa) ?_)
  refine nr ?_; intro U h; simp only [z0, z1] at h; subst h
  refine wpList_nil (jc (wp_cond_false rfl (wp_skip (jc (wp_seq (wp_seq ?_))))))
  refine jk (A := ?Ax19) 6 [(0, 32), (1, 33), (2, 34), (3, 35), (4, 36), (5, 37)] [.val (pK r 0), .val (pK r 0), .val (pK r 20), .val (.agg (c29 pi pn)), .val (pK g1 52), .val (.agg (c29 f.fi f.fn))] follows (by kernel_rfl) rfl ?hAx19 (ja ?o0x19 (ja ?o1x19 (ja ?o2x19 (ja ?o3x19 (ja ?o4x19 (ja ?o5x19 jw)))))) ?restx19
  case hAx19 =>
    intro ptrs
    simp only [full, foldSlots, filledE, postE, List.foldl_cons, List.foldl_nil, List.getD_cons_zero, List.getD_cons_succ, jr, List.set_cons_zero, List.set_cons_succ]
    exact rfl
  case o0x19 => exact fun _ _ _ _ => jg (v := pK r 0) _ rfl rfl rfl
  case o1x19 => exact fun _ _ hw _ => jb (v := pK r 0) rfl (jj _ rfl _ rfl)
  case o2x19 => exact fun _ _ hw _ => jb (v := pK r 20) rfl (jd 34 _ 4 rfl _ _ rfl _)
  case o3x19 => exact fun _ _ hw _ => jb (v := .agg (c29 pi pn)) rfl (jf 29 _ rfl r 20 2 rfl 34 _ (hw.has kr) _ Try.underlying29 rfl si29 _)
  case o4x19 => exact fun _ _ hw _ => jb (v := pK g1 52) rfl (jd 46 _ 6 rfl _ _ rfl _)
  case o5x19 => exact fun _ _ hw _ => jb (v := .agg (c29 f.fi f.fn)) rfl (jf 29 _ rfl g1 52 2 rfl 46 _ (hw.has kg1) _ Try.underlying29 rfl si29 _)
  intro ptrs w6 GD hxE
  simp only [List.drop_succ_cons, List.drop_zero]
  replace kr := GD.has kr
  replace kg1 := GD.has kg1
  replace kg2 := GD.has kg2
  replace kg3 := GD.has kg3
  replace kg4 := GD.has kg4
  replace GG := GG.drew.tg GD
  clear GD
  refine jz 38 rfl rfl _ 46 Try.call46 rfl rfl _ rfl [.agg (c29 pi pn), .agg (c29 f.fi f.fn)] rfl ((show lessN pi pn f.fi f.fn = true from hg) ▸ zj _ pi pn f.fi f.fn) ?_
  intro w7 G
  replace kr := G.has kr
  replace kg1 := G.has kg1
  replace kg2 := G.has kg2
  replace kg3 := G.has kg3
  replace kg4 := G.has kg4
  replace GG := GG.tg G
  clear G
  refine wpList_nil (jc (wp_cond_true rfl (wp_seq (wp_seq (wp_region_lit (mv 39 (pK r 0) (sv 40 (pK r 0) (jj _ rfl _ rfl) (sv 41 (pK r 17) (jd 34 _ 2 rfl _ _ rfl _) (sv 42 (vFa) (jh 4 _ rfl r 17 rfl 34 _ kr (na4 _) _ rfl) ?_)))))))))
  refine nr ?_; intro U h; simp only [z0, z1] at h; subst h
  refine wpList_nil (jc (wp_cond_false rfl (wp_skip (jc ?_))))
  refine jR (A := ?Ap1) (fun L x => GroS [r] w x ∧ x.heap[r]? = some (.cells (cond (L 17) (c34 id true false mi mn f.fi f.fn f.a ⟨so, u.length, sc⟩ ((k : Nat) : Int) ((c : Nat) : Int)) (cond (L 14) (c34 id true false mi mn f.fi f.fn oth ⟨so, u.length, sc⟩ ((k : Nat) : Int) ((c : Nat) : Int)) (cond (L 11) (c34 id true false mi mn pi pn oth ⟨so, u.length, sc⟩ ((k : Nat) : Int) ((c : Nat) : Int)) (c34 id true false mi mn pi pn oth ⟨so, u.length, sc⟩ ((k : Nat) : Int) ((c : Nat) : Int))))) 34 (0, 0)) ∧ x.heap[g1]? = some (.cells (frA f) 46 (0, 0)) ∧ x.heap[g2]? = some (.cells (c29 ni nn) 29 (0, 0)) ∧ x.heap[g3]? = some (.cells (c62 false false Sl.nil false Sl.nil) 62 (0, 0)) ∧ x.heap[g4]? = some (.cells (c62 false false Sl.nil false Sl.nil) 62 (0, 0))) 18 [(0, 48), (1, 49), (2, 50), (3, 51), (4, 52), (5, 53), (6, 54), (7, 55), (8, 56), (9, 57), (10, 58), (12, 59), (13, 60), (15, 61), (16, 62)] [.val (pK r 0), .val (pK r 0), .val (pK r 0), .val (pK r 0), .val (pK g1 52), .val (.agg (c29 f.fi f.fn)), .val (pK g1 19), .val (.agg (c23 f.a)), .val (.agg (c32 Sl.nil 0 0)), .val (pK r 0), .val (pK r 17), .val undef, .val (pK r 0), .val (pK r 20), .val undef, .val (pK r 0), .val (pK r 22), .val undef] [] [] follows (by kernel_rfl) rfl (by kernel_rfl) (by decide) ⟨GG.drew, (Gro.refl _).drew.has kr, (Gro.refl _).drew.has kg1, (Gro.refl _).drew.has kg2, (Gro.refl _).drew.has kg3, (Gro.refl _).drew.has kg4⟩ ?hAp1 (js (fun _ _ _ h _ G => ⟨h.1.tg G, G.has h.2.1, G.has h.2.2.1, G.has h.2.2.2.1, G.has h.2.2.2.2.1, G.has h.2.2.2.2.2⟩) ?o0p1 (js (fun _ _ _ h _ G => ⟨h.1.tg G, G.has h.2.1, G.has h.2.2.1, G.has h.2.2.2.1, G.has h.2.2.2.2.1, G.has h.2.2.2.2.2⟩) ?o1p1 (js (fun _ _ _ h _ G => ⟨h.1.tg G, G.has h.2.1, G.has h.2.2.1, G.has h.2.2.2.1, G.has h.2.2.2.2.1, G.has h.2.2.2.2.2⟩) ?o2p1 (js (fun _ _ _ h _ G => ⟨h.1.tg G, G.has h.2.1, G.has h.2.2.1, G.has h.2.2.2.1, G.has h.2.2.2.2.1, G.has h.2.2.2.2.2⟩) ?o3p1 (js (fun _ _ _ h _ G => ⟨h.1.tg G, G.has h.2.1, G.has h.2.2.1, G.has h.2.2.2.1, G.has h.2.2.2.2.1, G.has h.2.2.2.2.2⟩) ?o4p1 (js (fun _ _ _ h _ G => ⟨h.1.tg G, G.has h.2.1, G.has h.2.2.1, G.has h.2.2.2.1, G.has h.2.2.2.2.1, G.has h.2.2.2.2.2⟩) ?o5p1 (js (fun _ _ _ h _ G => ⟨h.1.tg G, G.has h.2.1, G.has h.2.2.1, G.has h.2.2.2.1, G.has h.2.2.2.2.1, G.has h.2.2.2.2.2⟩) ?o6p1 (js (fun _ _ _ h _ G => ⟨h.1.tg G, G.has h.2.1, G.has h.2.2.1, G.has h.2.2.2.1, G.has h.2.2.2.2.1, G.has h.2.2.2.2.2⟩) ?o7p1 (js (fun _ _ _ h _ G => ⟨h.1.tg G, G.has h.2.1, G.has h.2.2.1, G.has h.2.2.2.1, G.has h.2.2.2.2.1, G.has h.2.2.2.2.2⟩) ?o8p1 (js (fun _ _ _ h _ G => ⟨h.1.tg G, G.has h.2.1, G.has h.2.2.1, G.has h.2.2.2.1, G.has h.2.2.2.2.1, G.has h.2.2.2.2.2⟩) ?o9p1 (js (fun _ _ _ h _ G => ⟨h.1.tg G, G.has h.2.1, G.has h.2.2.1, G.has h.2.2.2.1, G.has h.2.2.2.2.1, G.has h.2.2.2.2.2⟩) ?o10p1 (jW ?o11p1 (js (fun _ _ _ h _ G => ⟨h.1.tg G, G.has h.2.1, G.has h.2.2.1, G.has h.2.2.2.1, G.has h.2.2.2.2.1, G.has h.2.2.2.2.2⟩) ?o12p1 (js (fun _ _ _ h _ G => ⟨h.1.tg G, G.has h.2.1, G.has h.2.2.1, G.has h.2.2.2.1, G.has h.2.2.2.2.1, G.has h.2.2.2.2.2⟩) ?o13p1 (jW ?o14p1 (js (fun _ _ _ h _ G => ⟨h.1.tg G, G.has h.2.1, G.has h.2.2.1, G.has h.2.2.2.1, G.has h.2.2.2.2.1, G.has h.2.2.2.2.2⟩) ?o15p1 (js (fun _ _ _ h _ G => ⟨h.1.tg G, G.has h.2.1, G.has h.2.2.1, G.has h.2.2.2.1, G.has h.2.2.2.2.1, G.has h.2.2.2.2.2⟩) ?o16p1 (jW ?o17p1 zp)))))))))))))))))) ?restp1
  case hAp1 =>
    intro ptrs
    simp only [full, foldSlots, filledE, postE, List.foldl_cons, List.foldl_nil, List.getD_cons_zero, List.getD_cons_succ, jr,  List.set_cons_zero, List.set_cons_succ]
    exact rfl
  case o0p1 => exact fun _ _ _ _ _ _ _ _ => jg (v := pK r 0) _ rfl rfl rfl
  case o1p1 => exact fun _ _ _ _ _ _ _ _ => jg (v := pK r 0) _ rfl rfl rfl
  case o2p1 => exact fun _ _ _ _ _ _ _ _ => jg (v := pK r 0) _ rfl rfl rfl
  case o3p1 => exact fun _ _ _ _ _ _ _ _ => jg (v := pK r 0) _ rfl rfl rfl
  case o4p1 => exact fun _ _ x hx _ _ _ _ => jb (v := pK g1 52) rfl (jd 46 _ 6 rfl _ _ rfl _)
  case o5p1 => exact fun _ _ x hx _ _ _ _ => jb (v := .agg (c29 f.fi f.fn)) rfl (jf 29 _ rfl g1 52 2 rfl 46 _ hx.2.2.1 _ Try.underlying29 rfl si29 _)
  case o6p1 => exact fun _ _ x hx _ _ _ _ => jb (v := pK g1 19) rfl (jd 46 _ 3 rfl _ _ rfl _)
  case o7p1 => exact fun _ _ x hx _ _ _ _ => jb (v := .agg (c23 f.a)) rfl (jf 23 _ rfl g1 19 16 rfl 46 _ hx.2.2.1 _ Try.underlying23 rfl si23 _)
  case o8p1 => exact fun _ _ x hx _ _ _ _ => jb (v := .agg (c32 Sl.nil 0 0)) rfl (jy 32 _ rfl [] rfl _ (by kernel_rfl))
  case o9p1 => exact fun _ _ x hx _ _ _ _ => jb (v := pK r 0) rfl (jj _ rfl _ rfl)
  case o10p1 => exact fun _ _ x hx _ _ _ _ => jb (v := pK r 17) rfl (jd 34 _ 2 rfl _ _ rfl _)
  case o11p1 =>
    intro L ptrs x hx hL hed hno _
    have hk := hx.2.1
    have h14 : L 14 = false := hno 14 (by kernel_rfl)
    have h17 : L 17 = false := hno 17 (by kernel_rfl)
    rw [h17, h14, hL] at hk
    replace hk : x.heap[r]? = some (.cells (c34 id true false mi mn pi pn oth ⟨so, u.length, sc⟩ ((k : Nat) : Int) ((c : Nat) : Int)) 34 (0, 0)) := hk
    refine jL _ rfl 4 _ _ rfl r 17 rfl (vFa) rfl 34 _ hk #[vFa] rfl (by kernel_rfl) (nlB rfl) (by kernel_rfl) (c34 id true false mi mn pi pn oth ⟨so, u.length, sc⟩ ((k : Nat) : Int) ((c : Nat) : Int)) (by kernel_rfl) ?_
    intro y St
    exact ⟨⟨⟨hx.1.st St (.inr (by simp)), (by rw [show upd L 11 17 = false from h17, show upd L 11 14 = false from h14]; exact St.new), St.has (by omega) hx.2.2.1, St.has (by omega) hx.2.2.2.1, St.has (by omega) hx.2.2.2.2.1, St.has (by omega) hx.2.2.2.2.2⟩, StM.vals [0, 1, 2, 3, 4, 5, 6, 7, 8, 9, 10, 12, 13, 14, 15, 16, 17] (by kernel_rfl) ⟨⟨_, rfl⟩, ⟨_, rfl⟩, ⟨_, rfl⟩, ⟨_, rfl⟩, ⟨_, rfl⟩, ⟨_, rfl⟩, ⟨_, rfl⟩, ⟨_, rfl⟩, ⟨_, rfl⟩, ⟨_, rfl⟩, ⟨_, rfl⟩, ⟨_, rfl⟩, ⟨_, rfl⟩, ⟨_, rfl⟩, ⟨_, rfl⟩, ⟨_, rfl⟩, ⟨_, rfl⟩, trivial⟩⟩, rfl⟩
  case o12p1 => exact fun _ _ x hx _ _ _ _ => jb (v := pK r 0) rfl (jj _ rfl _ rfl)
  case o13p1 => exact fun _ _ x hx _ _ _ _ => jb (v := pK r 20) rfl (jd 34 _ 4 rfl _ _ rfl _)
  case o14p1 =>
    intro L ptrs x hx hL hed hno _
    have hk := hx.2.1
    have h11 : L 11 = true := hed 11 (by kernel_rfl)
    have h17 : L 17 = false := hno 17 (by kernel_rfl)
    rw [h17, hL, h11] at hk
    replace hk : x.heap[r]? = some (.cells (c34 id true false mi mn pi pn oth ⟨so, u.length, sc⟩ ((k : Nat) : Int) ((c : Nat) : Int)) 34 (0, 0)) := hk
    refine jL _ rfl 29 _ _ rfl r 20 rfl (.agg (c29 f.fi f.fn)) rfl 34 _ hk (c29 f.fi f.fn) rfl (by kernel_rfl) (nlB rfl) (by kernel_rfl) (c34 id true false mi mn f.fi f.fn oth ⟨so, u.length, sc⟩ ((k : Nat) : Int) ((c : Nat) : Int)) (by kernel_rfl) ?_
    intro y St
    exact ⟨⟨⟨hx.1.st St (.inr (by simp)), (by rw [show upd L 14 17 = false from h17]; exact St.new), St.has (by omega) hx.2.2.1, St.has (by omega) hx.2.2.2.1, St.has (by omega) hx.2.2.2.2.1, St.has (by omega) hx.2.2.2.2.2⟩, StM.vals [0, 1, 2, 3, 4, 5, 6, 7, 8, 9, 10, 11, 12, 13, 15, 16, 17] (by kernel_rfl) ⟨⟨_, rfl⟩, ⟨_, rfl⟩, ⟨_, rfl⟩, ⟨_, rfl⟩, ⟨_, rfl⟩, ⟨_, rfl⟩, ⟨_, rfl⟩, ⟨_, rfl⟩, ⟨_, rfl⟩, ⟨_, rfl⟩, ⟨_, rfl⟩, ⟨_, rfl⟩, ⟨_, rfl⟩, ⟨_, rfl⟩, ⟨_, rfl⟩, ⟨_, rfl⟩, ⟨_, rfl⟩, trivial⟩⟩, rfl⟩
  case o15p1 => exact fun _ _ x hx _ _ _ _ => jb (v := pK r 0) rfl (jj _ rfl _ rfl)
  case o16p1 => exact fun _ _ x hx _ _ _ _ => jb (v := pK r 22) rfl (jd 34 _ 5 rfl _ _ rfl _)
  case o17p1 =>
    intro L ptrs x hx hL hed hno _
    have hk := hx.2.1
    have h11 : L 11 = true := hed 11 (by kernel_rfl)
    have h14 : L 14 = true := hed 14 (by kernel_rfl)
    rw [hL, h14, h11] at hk
    replace hk : x.heap[r]? = some (.cells (c34 id true false mi mn f.fi f.fn oth ⟨so, u.length, sc⟩ ((k : Nat) : Int) ((c : Nat) : Int)) 34 (0, 0)) := hk
    refine jL _ rfl 23 _ _ rfl r 22 rfl (.agg (c23 f.a)) rfl 34 _ hk (c23 f.a) rfl (by kernel_rfl) (nlB rfl) (by kernel_rfl) (c34 id true false mi mn f.fi f.fn f.a ⟨so, u.length, sc⟩ ((k : Nat) : Int) ((c : Nat) : Int)) (by kernel_rfl) ?_
    intro y St
    exact ⟨⟨⟨hx.1.st St (.inr (by simp)), St.new, St.has (by omega) hx.2.2.1, St.has (by omega) hx.2.2.2.1, St.has (by omega) hx.2.2.2.2.1, St.has (by omega) hx.2.2.2.2.2⟩, StM.vals [0, 1, 2, 3, 4, 5, 6, 7, 8, 9, 10, 11, 12, 13, 14, 15, 16] (by kernel_rfl) ⟨⟨_, rfl⟩, ⟨_, rfl⟩, ⟨_, rfl⟩, ⟨_, rfl⟩, ⟨_, rfl⟩, ⟨_, rfl⟩, ⟨_, rfl⟩, ⟨_, rfl⟩, ⟨_, rfl⟩, ⟨_, rfl⟩, ⟨_, rfl⟩, ⟨_, rfl⟩, ⟨_, rfl⟩, ⟨_, rfl⟩, ⟨_, rfl⟩, ⟨_, rfl⟩, ⟨_, rfl⟩, trivial⟩⟩, rfl⟩
  intro ptrs w8 HJ _
  simp only [List.drop_succ_cons, List.drop_zero]
  clear GG kr kg1 kg2 kg3 kg4
  obtain ⟨GG, kr, kg1, kg2, kg3, kg4⟩ := HJ
  replace kr : w8.heap[r]? = some (.cells (c34 id true false mi mn f.fi f.fn f.a ⟨so, u.length, sc⟩ ((k : Nat) : Int) ((c : Nat) : Int)) 34 (0, 0)) := kr
  refine sv 63 (pK r 0) (jj _ rfl _ rfl) (sv 64 (pK r 38) (jd 34 _ 6 rfl _ _ rfl _) ?_)
  refine jn rfl rfl 32 _ _ rfl r 38 rfl (.agg (c32 Sl.nil 0 0)) rfl 34 _ kr (c32 Sl.nil 0 0) rfl (by kernel_rfl) (nlB rfl) (by kernel_rfl) (c34 id true false mi mn f.fi f.fn f.a Sl.nil 0 0) (by kernel_rfl) ?_
  intro w10 St
  replace kg1 := St.has (by omega) kg1
  replace kg2 := St.has (by omega) kg2
  replace kg3 := St.has (by omega) kg3
  replace kg4 := St.has (by omega) kg4
  replace GG := GG.st St (.inr (by simp))
  replace kr := St.new
  clear St
  refine wpList_nil (jc (wp_seq (wp_seq ?_)))
  refine jk (A := ?Ax20) 6 [(0, 65), (1, 66), (2, 67), (3, 68), (4, 69), (5, 70)] [.val (pK g1 54), .val (.agg (c29 f.ti f.tn)), .val (pK r 0), .val (pK r 0), .val (pK r 18), .val (.agg (c29 mi mn))] follows (by kernel_rfl) rfl ?hAx20 (ja ?o0x20 (ja ?o1x20 (ja ?o2x20 (ja ?o3x20 (ja ?o4x20 (ja ?o5x20 jw)))))) ?restx20
  case hAx20 =>
    intro ptrs
    simp only [full, foldSlots, filledE, postE, List.foldl_cons, List.foldl_nil, List.getD_cons_zero, List.getD_cons_succ, jr, List.set_cons_zero, List.set_cons_succ]
    exact rfl
  case o0x20 => exact fun _ _ hw _ => jb (v := pK g1 54) rfl (jd 46 _ 7 rfl _ _ rfl _)
  case o1x20 => exact fun _ _ hw _ => jb (v := .agg (c29 f.ti f.tn)) rfl (jf 29 _ rfl g1 54 2 rfl 46 _ (hw.has kg1) _ Try.underlying29 rfl si29 _)
  case o2x20 => exact fun _ _ _ _ => jg (v := pK r 0) _ rfl rfl rfl
  case o3x20 => exact fun _ _ hw _ => jb (v := pK r 0) rfl (jj _ rfl _ rfl)
  case o4x20 => exact fun _ _ hw _ => jb (v := pK r 18) rfl (jd 34 _ 3 rfl _ _ rfl _)
  case o5x20 => exact fun _ _ hw _ => jb (v := .agg (c29 mi mn)) rfl (jf 29 _ rfl r 18 2 rfl 34 _ (hw.has kr) _ Try.underlying29 rfl si29 _)
  intro ptrs w11 GD hxE
  simp only [List.drop_succ_cons, List.drop_zero]
  replace kr := GD.has kr
  replace kg1 := GD.has kg1
  replace kg2 := GD.has kg2
  replace kg3 := GD.has kg3
  replace kg4 := GD.has kg4
  replace GG := GG.drew.tg GD
  clear GD
  refine sv 71 (vFa) (jH _ _ _ rfl f.ti f.tn mi mn rfl rfl false (hs) _) (mv 72 (vFa) (zf 73 rfl rfl ?_))
  refine nr ?_; intro U h; simp only [z0, z1] at h; subst h
  refine zf 74 rfl rfl (zf 75 rfl rfl (zf 76 rfl rfl (zf 77 rfl rfl (mv 78 (vFa) ?_))))
  refine nr ?_; intro U h; simp only [z0, z1] at h; subst h
  refine wpList_nil (jc (wp_cond_false rfl (wp_skip (jc (wp_seq ?_)))))
  refine jk (A := ?Ax21) 13 [(0, 83), (1, 84), (2, 85), (3, 86), (4, 87), (5, 88), (6, 89), (7, 90), (8, 91), (9, 92), (10, 93), (11, 94), (12, 95)] [.val (pK r 0), .val (pK r 0), .val (pK r 18), .val (.agg (c29 mi mn)), .val (pK r 0), .val (pK r 0), .val (pK r 20), .val (.agg (c29 f.fi f.fn)), .val (pK r 0), .val (pK r 0), .val (pK r 38), .val (pK r 40), .val (iK 0)] follows (by kernel_rfl) rfl ?hAx21 (ja ?o0x21 (ja ?o1x21 (ja ?o2x21 (ja ?o3x21 (ja ?o4x21 (ja ?o5x21 (ja ?o6x21 (ja ?o7x21 (ja ?o8x21 (ja ?o9x21 (ja ?o10x21 (ja ?o11x21 (ja ?o12x21 jw))))))))))))) ?restx21
  case hAx21 =>
    intro ptrs
    simp only [full, foldSlots, filledE, postE, List.foldl_cons, List.foldl_nil, List.getD_cons_zero, List.getD_cons_succ, jr, List.set_cons_zero, List.set_cons_succ]
    exact rfl
  case o0x21 => exact fun _ _ _ _ => jg (v := pK r 0) _ rfl rfl rfl
  case o1x21 => exact fun _ _ hw _ => jb (v := pK r 0) rfl (jj _ rfl _ rfl)
  case o2x21 => exact fun _ _ hw _ => jb (v := pK r 18) rfl (jd 34 _ 3 rfl _ _ rfl _)
  case o3x21 => exact fun _ _ hw _ => jb (v := .agg (c29 mi mn)) rfl (jf 29 _ rfl r 18 2 rfl 34 _ (hw.has kr) _ Try.underlying29 rfl si29 _)
  case o4x21 => exact fun _ _ _ _ => jg (v := pK r 0) _ rfl rfl rfl
  case o5x21 => exact fun _ _ hw _ => jb (v := pK r 0) rfl (jj _ rfl _ rfl)
  case o6x21 => exact fun _ _ hw _ => jb (v := pK r 20) rfl (jd 34 _ 4 rfl _ _ rfl _)
  case o7x21 => exact fun _ _ hw _ => jb (v := .agg (c29 f.fi f.fn)) rfl (jf 29 _ rfl r 20 2 rfl 34 _ (hw.has kr) _ Try.underlying29 rfl si29 _)
  case o8x21 => exact fun _ _ _ _ => jg (v := pK r 0) _ rfl rfl rfl
  case o9x21 => exact fun _ _ hw _ => jb (v := pK r 0) rfl (jj _ rfl _ rfl)
  case o10x21 => exact fun _ _ hw _ => jb (v := pK r 38) rfl (jd 34 _ 6 rfl _ _ rfl _)
  case o11x21 => exact fun _ _ hw _ => jb (v := pK r 40) rfl (jd 32 _ 2 rfl _ _ rfl _)
  case o12x21 => exact fun _ _ hw _ => jb (v := iK 0) rfl (jh 2 _ rfl r 40 rfl 34 _ (hw.has kr) (na2 _) _ rfl)
  intro ptrs w12 GD hxE
  simp only [List.drop_succ_cons, List.drop_zero]
  replace kr := GD.has kr
  replace kg1 := GD.has kg1
  replace kg2 := GD.has kg2
  replace kg3 := GD.has kg3
  replace kg4 := GD.has kg4
  replace GG := GG.drew.tg GD
  clear GD
  refine sv 96 (.agg (c46 3 zF 0 false zF zF 0 mi mn f.fi f.fn Sl.nil Sl.nil zF 0 zF Sl.nil 0 0 Sl.nil)) (jy 46 _ rfl [(0, iK 3), (6, .agg (c29 mi mn)), (7, .agg (c29 f.fi f.fn)), (5, iK 0)] rfl _ (by kernel_rfl)) ?_
  refine zk 97 rfl rfl 50 1 _ rfl [(0, .agg (c46 3 zF 0 false zF zF 0 mi mn f.fi f.fn Sl.nil Sl.nil zF 0 zF Sl.nil 0 0 Sl.nil))] rfl (c46 3 zF 0 false zF zF 0 mi mn f.fi f.fn Sl.nil Sl.nil zF 0 zF Sl.nil 0 0 Sl.nil) 46 (by kernel_rfl) ?_
  intro w13 g5 G eg5 kg5
  have bg5 := jl GG eg5
  have drg5 := je kr eg5
  have dg1g5 := je kg1 eg5
  have dg2g5 := je kg2 eg5
  have dg3g5 := je kg3 eg5
  have dg4g5 := je kg4 eg5
  replace kr := G.has kr
  replace kg1 := G.has kg1
  replace kg2 := G.has kg2
  replace kg3 := G.has kg3
  replace kg4 := G.has kg4
  replace GG := GG.tg G
  clear G eg5
  refine sv 98 (pK g4 4) (jd 62 _ 4 rfl _ _ rfl _) ?_
  refine jn rfl rfl 50 _ _ rfl g4 4 rfl (.slice (some ⟨g5, 0, none⟩) 1 1) rfl 62 _ kg4 #[.slice (some ⟨g5, 0, none⟩) 1 1] rfl (by kernel_rfl) (nlB rfl) (by kernel_rfl) (c62 false false Sl.nil false ⟨some ⟨g5, 0, none⟩, 1, 1⟩) (by kernel_rfl) ?_
  intro w15 St
  replace kr := St.has (by omega) kr
  replace kg1 := St.has (by omega) kg1
  replace kg2 := St.has (by omega) kg2
  replace kg3 := St.has (by omega) kg3
  replace kg5 := St.has (by omega) kg5
  replace GG := GG.st St (.inl bg4)
  replace kg4 := St.new
  clear St
  refine wpList_nil (jc (wp_seq ?_))
  refine jk (A := ?Ax22) 6 [(0, 99), (1, 100), (2, 101), (3, 102), (4, 103), (5, 104)] [.val (pK g1 54), .val (.agg (c29 f.ti f.tn)), .val (pK r 0), .val (pK r 0), .val (pK r 18), .val (.agg (c29 mi mn))] follows (by kernel_rfl) rfl ?hAx22 (ja ?o0x22 (ja ?o1x22 (ja ?o2x22 (ja ?o3x22 (ja ?o4x22 (ja ?o5x22 jw)))))) ?restx22
  case hAx22 =>
    intro ptrs
    simp only [full, foldSlots, filledE, postE, List.foldl_cons, List.foldl_nil, List.getD_cons_zero, List.getD_cons_succ, jr, List.set_cons_zero, List.set_cons_succ]
    exact rfl
  case o0x22 => exact fun _ _ hw _ => jb (v := pK g1 54) rfl (jd 46 _ 7 rfl _ _ rfl _)
  case o1x22 => exact fun _ _ hw _ => jb (v := .agg (c29 f.ti f.tn)) rfl (jf 29 _ rfl g1 54 2 rfl 46 _ (hw.has kg1) _ Try.underlying29 rfl si29 _)
  case o2x22 => exact fun _ _ _ _ => jg (v := pK r 0) _ rfl rfl rfl
  case o3x22 => exact fun _ _ hw _ => jb (v := pK r 0) rfl (jj _ rfl _ rfl)
  case o4x22 => exact fun _ _ hw _ => jb (v := pK r 18) rfl (jd 34 _ 3 rfl _ _ rfl _)
  case o5x22 => exact fun _ _ hw _ => jb (v := .agg (c29 mi mn)) rfl (jf 29 _ rfl r 18 2 rfl 34 _ (hw.has kr) _ Try.underlying29 rfl si29 _)
  intro ptrs w16 GD hxE
  simp only [List.drop_succ_cons, List.drop_zero]
  replace kr := GD.has kr
  replace kg1 := GD.has kg1
  replace kg2 := GD.has kg2
  replace kg3 := GD.has kg3
  replace kg4 := GD.has kg4
  replace kg5 := GD.has kg5
  replace GG := GG.drew.tg GD
  clear GD
  refine sv 105 (vTr) (zq _ _ _ rfl f.ti f.tn mi mn rfl rfl true (by rw [hs]; rfl) _) (mv 106 (vTr) ?_)
  refine nr ?_; intro U h; simp only [z0, z1] at h; subst h
  refine zf 107 rfl rfl (zf 108 rfl rfl (mv 109 (vTr) (wpList_nil (jc (wp_cond_true rfl (wp_region_lit (mv 110 (pK r 0) ?_)))))))
  refine jz 111 rfl rfl _ 36 Try.call36 rfl rfl _ rfl [pK r 0] rfl (zE _ r B id true false mi mn f.fi f.fn f.a none 0 [] 0 0 (WX.new kr H.base (by decide))) ?_
  intro w17 G
  replace kr := G.has kr
  replace kg1 := G.has kg1
  replace kg2 := G.has kg2
  replace kg3 := G.has kg3
  replace kg4 := G.has kg4
  replace kg5 := G.has kg5
  replace GG := GG.tg G
  clear G
  refine nr ?_; intro U h; simp only [z0, z1] at h; subst h
  refine zk 112 rfl rfl 50 1 _ rfl [(0, .agg (c46 1 zF 0 false id zF 0 mi mn f.fi f.fn Sl.nil Sl.nil zF 0 zF Sl.nil 0 0 Sl.nil))] rfl (c46 1 zF 0 false id zF 0 mi mn f.fi f.fn Sl.nil Sl.nil zF 0 zF Sl.nil 0 0 Sl.nil) 46 (by kernel_rfl) ?_
  intro w18 g6 G eg6 kg6
  have bg6 := jl GG eg6
  have drg6 := je kr eg6
  have dg1g6 := je kg1 eg6
  have dg2g6 := je kg2 eg6
  have dg3g6 := je kg3 eg6
  have dg4g6 := je kg4 eg6
  have dg5g6 := je kg5 eg6
  replace kr := G.has kr
  replace kg1 := G.has kg1
  replace kg2 := G.has kg2
  replace kg3 := G.has kg3
  replace kg4 := G.has kg4
  replace kg5 := G.has kg5
  replace GG := GG.tg G
  clear G eg6
  refine sv 113 (pK g4 4) (jd 62 _ 4 rfl _ _ rfl _) ?_
  refine jn rfl rfl 50 _ _ rfl g4 4 rfl (.slice (some ⟨g6, 0, none⟩) 1 1) rfl 62 _ kg4 #[.slice (some ⟨g6, 0, none⟩) 1 1] rfl (by kernel_rfl) (nlB rfl) (by kernel_rfl) (c62 false false Sl.nil false ⟨some ⟨g6, 0, none⟩, 1, 1⟩) (by kernel_rfl) ?_
  intro w20 St
  replace kr := St.has (by omega) kr
  replace kg1 := St.has (by omega) kg1
  replace kg2 := St.has (by omega) kg2
  replace kg3 := St.has (by omega) kg3
  replace kg5 := St.has (by omega) kg5
  replace kg6 := St.has (by omega) kg6
  replace GG := GG.st St (.inl bg4)
  replace kg4 := St.new
  clear St
  refine wpList_nil (zh (jc (wp_seq (wp_region_lit (sv 203 (.agg (c62 false false Sl.nil false ⟨some ⟨g6, 0, none⟩, 1, 1⟩)) (jf 62 _ rfl g4 0 5 rfl 62 _ kg4 _ Try.underlying62 rfl si62 _) ?_)))))
  refine jn rfl rfl 62 _ _ rfl g3 0 rfl (.agg (c62 false false Sl.nil false ⟨some ⟨g6, 0, none⟩, 1, 1⟩)) rfl 62 _ kg3 (c62 false false Sl.nil false ⟨some ⟨g6, 0, none⟩, 1, 1⟩) rfl (by kernel_rfl) (nlB rfl) (by kernel_rfl) (c62 false false Sl.nil false ⟨some ⟨g6, 0, none⟩, 1, 1⟩) (by kernel_rfl) ?_
  intro w22 St
  replace kr := St.has (by omega) kr
  replace kg1 := St.has (by omega) kg1
  replace kg2 := St.has (by omega) kg2
  replace kg4 := St.has (by omega) kg4
  replace kg5 := St.has (by omega) kg5
  replace kg6 := St.has (by omega) kg6
  replace GG := GG.st St (.inl bg3)
  replace kg3 := St.new
  clear St
  refine wpList_nil (jc (wp_ret ?_))
  refine bodyPost_ret (results_cell_row Try.results22 _ _ g3 62 _ (0, 0) _ rfl kg3 Try.underlying62 rfl (by kernel_rfl)) rfl ?_
  exact ⟨_, (r :: blk none), [], rfl, TV.one (f := pfr ⟨1, id, mi, mn, f.fi, f.fn, 0, []⟩ Sl.nil Sl.nil Sl.nil Sl.nil) kg6 (zQ _ _ _ _ _ _ _ _), ⟨B, none, 0, [], WX.new kr H.base (by decide), Nat.zero_le _, rfl, rfl, rfl⟩, GG.p1, Fresh.rnew, Fresh.nil0 _ _⟩
theorem yR (w : World) (r B : Nat) (id : Nat → Nat) (mi mn pi pn : Int) (oth : Nat → Nat) (so : Option Addr) (sc : Nat) (u : List RV) (k c : Nat) (H : WX 34 (c34 id true false mi mn pi pn oth ⟨so, u.length, sc⟩ ((k : Nat) : Int) ((c : Nat) : Int)) w r B so sc u) (_hk : k ≤ u.length) (f : Fr) (ni nn : Int) (hf1 : f.kind = 1) (hl : lessN f.fi f.fn pi pn = false) (hz : (decide (f.fi = 0) && decide (f.fn = 0)) = false) (hg : lessN pi pn f.fi f.fn = true) (hs : (decide (f.ti = mi) && decide (f.tn = mn)) = true) : Calls Try.prog 22 #[pK r 0, .agg (frA f), .agg (c29 ni nn)] w (HearD w r id (r :: blk so) (txb u) (⟨true, true, mi, mn, f.fi, f.fn, f.a, 0, [], 0⟩, ⟨false, true, [], false, [⟨1, id, mi, mn, f.fi, f.fn, 0, []⟩]⟩)) := by
  refine jp Try.func22 rfl Try.ntmps22 [pK r 0, .agg (frA f), .agg (c29 ni nn)] ?_
  intro U h; simp only [List.length_cons, List.length_nil, List.cons_append, List.nil_append, Nat.reduceAdd, Nat.reduceSub, List.reduceReplicate] at h; subst h
  have GG := GroS.refl [r] w
  have kr := H.box
  have hpl := H.lt
  have hBl := H.bl
  refine wp_seq (wp_region_lit ?_)
  refine jB 4 rfl rfl 46 _ rfl _ rfl (frA f) rfl ?_
  intro w1 g1 G eg1 kg1
  have bg1 := jl GG eg1
  have drg1 := je kr eg1
  replace kr := G.has kr
  replace GG := GG.tg G
  clear G eg1
  refine jB 5 rfl rfl 29 _ rfl _ rfl (c29 ni nn) rfl ?_
  intro w2 g2 G eg2 kg2
  have bg2 := jl GG eg2
  have drg2 := je kr eg2
  have dg1g2 := je kg1 eg2
  replace kr := G.has kr
  replace kg1 := G.has kg1
  replace GG := GG.tg G
  clear G eg2
  refine jq 6 rfl rfl 62 rfl _ zv62 _ rfl ?_
  intro w3 g3 G eg3 kg3
  have bg3 := jl GG eg3
  have drg3 := je kr eg3
  have dg1g3 := je kg1 eg3
  have dg2g3 := je kg2 eg3
  replace kr := G.has kr
  replace kg1 := G.has kg1
  replace kg2 := G.has kg2
  replace GG := GG.tg G
  clear G eg3
  refine wpList_nil (jc (wp_seq (wp_region_lit ?_)))
  refine jq 7 rfl rfl 62 rfl _ zv62 _ rfl ?_
  intro w4 g4 G eg4 kg4
  have bg4 := jl GG eg4
  have drg4 := je kr eg4
  have dg1g4 := je kg1 eg4
  have dg2g4 := je kg2 eg4
  have dg3g4 := je kg3 eg4
  replace kr := G.has kr
  replace kg1 := G.has kg1
  replace kg2 := G.has kg2
  replace kg3 := G.has kg3
  replace GG := GG.tg G
  clear G eg4
  refine wpList_nil (jc (wp_seq (wp_seq (wp_region_lit (mv 8 (pK r 0) ?_)))))
  refine nr ?_; intro U h; simp only [z0, z1] at h; subst h
  refine sv 9 (pK r 0) (jj _ rfl _ rfl) (sv 10 (pK r 16) (jd 34 _ 1 rfl _ _ rfl _) (sv 11 (vTr) (jh 4 _ rfl r 16 rfl 34 _ kr (na4 _) _ rfl) (sv 12 (vFa) (jE _ _ rfl true rfl) (wpList_nil (jc (wp_cond_false rfl (wp_skip (jc (wp_seq (wp_seq (wp_region_lit (sv 14 (pK g1 0) (jd 46 _ 0 rfl _ _ rfl _) ?_))))))))))))
  refine nr ?_; intro U h; simp only [z0, z1] at h; subst h
  refine sv 15 (iK f.kind) (jh 3 _ rfl g1 0 rfl 46 _ kg1 (na3 _) _ rfl) (wpList_nil (jc (wp_block (wp_seq (wp_region_lit (sv 17 (vTr) (jo 3 .i64 _ _ _ rfl Try.underlying3 f.kind 1 rfl rfl true (decide_eq_true hf1) _) (mv 16 (vTr) (wpList_nil (jc (wp_cond_true rfl (wp_seq (wp_seq ?_))))))))))))
  refine jk (A := ?Ax23) 11 [(0, 18), (1, 19), (2, 20), (3, 21), (4, 22), (5, 23), (6, 24), (7, 25), (8, 26), (9, 27), (10, 28)] [.val (pK g1 52), .val (.agg (c29 f.fi f.fn)), .val (pK r 0), .val (pK r 0), .val (pK r 20), .val (.agg (c29 pi pn)), .val (vFa), .val (vFa), .val (pK g1 52), .val (.agg (c29 f.fi f.fn)), .val (.agg (c29 0 0))] follows (by kernel_rfl) rfl ?hAx23 (ja ?o0x23 (ja ?o1x23 (ja ?o2x23 (ja ?o3x23 (ja ?o4x23 (ja ?o5x23 (ja ?o6x23 (ja ?o7x23 (ja ?o8x23 (ja ?o9x23 (ja ?o10x23 jw))))))))))) ?restx23
  case hAx23 =>
    intro ptrs
    simp only [full, foldSlots, filledE, postE, List.foldl_cons, List.foldl_nil, List.getD_cons_zero, List.getD_cons_succ, jr, List.set_cons_zero, List.set_cons_succ]
    exact rfl
  case o0x23 => exact fun _ _ hw _ => jb (v := pK g1 52) rfl (jd 46 _ 6 rfl _ _ rfl _)
  case o1x23 => exact fun _ _ hw _ => jb (v := .agg (c29 f.fi f.fn)) rfl (jf 29 _ rfl g1 52 2 rfl 46 _ (hw.has kg1) _ Try.underlying29 rfl si29 _)
  case o2x23 => exact fun _ _ _ _ => jg (v := pK r 0) _ rfl rfl rfl
  case o3x23 => exact fun _ _ hw _ => jb (v := pK r 0) rfl (jj _ rfl _ rfl)
  case o4x23 => exact fun _ _ hw _ => jb (v := pK r 20) rfl (jd 34 _ 4 rfl _ _ rfl _)
  case o5x23 => exact fun _ _ hw _ => jb (v := .agg (c29 pi pn)) rfl (jf 29 _ rfl r 20 2 rfl 34 _ (hw.has kr) _ Try.underlying29 rfl si29 _)
  case o6x23 => exact fun _ _ hw _ => jT (.val (vFa)) rfl _ 46 Try.call46 rfl rfl _ rfl [.agg (c29 f.fi f.fn), .agg (c29 pi pn)] rfl (((show lessN f.fi f.fn pi pn = false from hl) ▸ zj _ f.fi f.fn pi pn).mono fun e w' ⟨he, hg⟩ => ⟨_, he, hg, rfl⟩)
  case o7x23 => exact fun _ _ _ _ => jg (v := vFa) _ rfl rfl rfl
  case o8x23 => exact fun _ _ hw _ => jb (v := pK g1 52) rfl (jd 46 _ 6 rfl _ _ rfl _)
  case o9x23 => exact fun _ _ hw _ => jb (v := .agg (c29 f.fi f.fn)) rfl (jf 29 _ rfl g1 52 2 rfl 46 _ (hw.has kg1) _ Try.underlying29 rfl si29 _)
  case o10x23 => exact fun _ _ hw _ => jb (v := .agg (c29 0 0)) rfl (jy 29 _ rfl [] rfl _ (by kernel_rfl))
  intro ptrs w5 GD hxE
  simp only [List.drop_succ_cons, List.drop_zero]
  replace kr := GD.has kr
  replace kg1 := GD.has kg1
  replace kg2 := GD.has kg2
  replace kg3 := GD.has kg3
  replace kg4 := GD.has kg4
  replace GG := GG.drew.tg GD
  clear GD
  refine jI 29 rfl rfl (vFa) (jH _ _ _ rfl f.fi f.fn 0 0 rfl rfl false (hz) _) (mv 30 (vFa) ?_)
  refine nr ?_; intro U h; simp only [z0, z1] at h; subst h
  refine wpList_nil (jc (wp_cond_false rfl (wp_skip (jc (wp_seq (wp_seq ?_))))))
  refine jk (A := ?Ax24) 6 [(0, 32), (1, 33), (2, 34), (3, 35), (4, 36), (5, 37)] [.val (pK r 0), .val (pK r 0), .val (pK r 20), .val (.agg (c29 pi pn)), .val (pK g1 52), .val (.agg (c29 f.fi f.fn))] follows (by kernel_rfl) rfl ?hAx24 (ja ?o0x24 (ja ?o1x24 (ja ?o2x24 (ja ?o3x24 (ja ?o4x24 (ja ?o5x24 jw)))))) ?restx24
  case hAx24 =>
    intro ptrs
    simp only [full, foldSlots, filledE, postE, List.foldl_cons, List.foldl_nil, List.getD_cons_zero, List.getD_cons_succ, jr, List.set_cons_zero, List.set_cons_succ]
    exact rfl
  case o0x24 => exact fun _ _ _ _ => jg (v := pK r 0) _ rfl rfl rfl
  case o1x24 => exact fun _ _ hw _ => jb (v := pK r 0) rfl (jj _ rfl _ rfl)
  case o2x24 => exact fun _ _ hw _ => jb (v := pK r 20) rfl (jd 34 _ 4 rfl _ _ rfl _)
  case o3x24 => exact fun _ _ hw _ => jb (v := .agg (c29 pi pn)) rfl (jf 29 _ rfl r 20 2 rfl 34 _ (hw.has kr) _ Try.underlying29 rfl si29 _)
  case o4x24 => exact fun _ _ hw _ => jb (v := pK g1 52) rfl (jd 46 _ 6 rfl _ _ rfl _)
  case o5x24 => exact fun _ _ hw _ => jb (v := .agg (c29 f.fi f.fn)) rfl (jf 29 _ rfl g1 52 2 rfl 46 _ (hw.has kg1) _ Try.underlying29 rfl si29 _)
  intro ptrs w6 GD hxE
  simp only [List.drop_succ_cons, List.drop_zero]
  replace kr := GD.has kr
  replace kg1 := GD.has kg1
  replace kg2 := GD.has kg2
  replace kg3 := GD.has kg3
  replace kg4 := GD.has kg4
  replace GG := GG.drew.tg GD
  clear GD
  refine jz 38 rfl rfl _ 46 Try.call46 rfl rfl _ rfl [.agg (c29 pi pn), .agg (c29 f.fi f.fn)] rfl ((show lessN pi pn f.fi f.fn = true from hg) ▸ zj _ pi pn f.fi f.fn) ?_
  intro w7 G
  replace kr := G.has kr
  replace kg1 := G.has kg1
  replace kg2 := G.has kg2
  replace kg3 := G.has kg3
  replace kg4 := G.has kg4
  replace GG := GG.tg G
  clear G
  refine wpList_nil (jc (wp_cond_true rfl (wp_seq (wp_seq (wp_region_lit (mv 39 (pK r 0) (sv 40 (pK r 0) (jj _ rfl _ rfl) (sv 41 (pK r 17) (jd 34 _ 2 rfl _ _ rfl _) (sv 42 (vFa) (jh 4 _ rfl r 17 rfl 34 _ kr (na4 _) _ rfl) ?_)))))))))
  refine nr ?_; intro U h; simp only [z0, z1] at h; subst h
  refine wpList_nil (jc (wp_cond_false rfl (wp_skip (jc ?_))))
  refine jR (A := ?Ap2) (fun L x => GroS [r] w x ∧ x.heap[r]? = some (.cells (cond (L 17) (c34 id true false mi mn f.fi f.fn f.a ⟨so, u.length, sc⟩ ((k : Nat) : Int) ((c : Nat) : Int)) (cond (L 14) (c34 id true false mi mn f.fi f.fn oth ⟨so, u.length, sc⟩ ((k : Nat) : Int) ((c : Nat) : Int)) (cond (L 11) (c34 id true false mi mn pi pn oth ⟨so, u.length, sc⟩ ((k : Nat) : Int) ((c : Nat) : Int)) (c34 id true false mi mn pi pn oth ⟨so, u.length, sc⟩ ((k : Nat) : Int) ((c : Nat) : Int))))) 34 (0, 0)) ∧ x.heap[g1]? = some (.cells (frA f) 46 (0, 0)) ∧ x.heap[g2]? = some (.cells (c29 ni nn) 29 (0, 0)) ∧ x.heap[g3]? = some (.cells (c62 false false Sl.nil false Sl.nil) 62 (0, 0)) ∧ x.heap[g4]? = some (.cells (c62 false false Sl.nil false Sl.nil) 62 (0, 0))) 18 [(0, 48), (1, 49), (2, 50), (3, 51), (4, 52), (5, 53), (6, 54), (7, 55), (8, 56), (9, 57), (10, 58), (12, 59), (13, 60), (15, 61), (16, 62)] [.val (pK r 0), .val (pK r 0), .val (pK r 0), .val (pK r 0), .val (pK g1 52), .val (.agg (c29 f.fi f.fn)), .val (pK g1 19), .val (.agg (c23 f.a)), .val (.agg (c32 Sl.nil 0 0)), .val (pK r 0), .val (pK r 17), .val undef, .val (pK r 0), .val (pK r 20), .val undef, .val (pK r 0), .val (pK r 22), .val undef] [] [] follows (by kernel_rfl) rfl (by kernel_rfl) (by decide) ⟨GG.drew, (Gro.refl _).drew.has kr, (Gro.refl _).drew.has kg1, (Gro.refl _).drew.has kg2, (Gro.refl _).drew.has kg3, (Gro.refl _).drew.has kg4⟩ ?hAp2 (js (fun _ _ _ h _ G => ⟨h.1.tg G, G.has h.2.1, G.has h.2.2.1, G.has h.2.2.2.1, G.has h.2.2.2.2.1, G.has h.2.2.2.2.2⟩) ?o0p2 (js (fun _ _ _ h _ G => ⟨h.1.tg G, G.has h.2.1, G.has h.2.2.1, G.has h.2.2.2.1, G.has h.2.2.2.2.1, G.has h.2.2.2.2.2⟩) ?o1p2 (js (fun _ _ _ h _ G => ⟨h.1.tg G, G.has h.2.1, G.has h.2.2.1, G.has h.2.2.2.1, G.has h.2.2.2.2.1, G.has h.2.2.2.2.2⟩) ?o2p2 (js (fun _ _ _ h _ G => ⟨h.1.tg G, G.has h.2.1, G.has h.2.2.1, G.has h.2.2.2.1, G.has h.2.2.2.2.1, G.has h.2.2.2.2.2⟩) ?o3p2 (js (fun _ _ _ h _ G => ⟨h.1.tg G, G.has h.2.1, G.has h.2.2.1, G.has h.2.2.2.1, G.has h.2.2.2.2.1, G.has h.2.2.2.2.2⟩) ?o4p2 (js (fun _ _ _ h _ G => ⟨h.1.tg G, G.has h.2.1, G.has h.2.2.1, G.has h.2.2.2.1, G.has h.2.2.2.2.1, G.has h.2.2.2.2.2⟩) ?o5p2 (js (fun _ _ _ h _ G => ⟨h.1.tg G, G.has h.2.1, G.has h.2.2.1, G.has h.2.2.2.1, G.has h.2.2.2.2.1, G.has h.2.2.2.2.2⟩) ?o6p2 (js (fun _ _ _ h _ G => ⟨h.1.tg G, G.has h.2.1, G.has h.2.2.1, G.has h.2.2.2.1, G.has h.2.2.2.2.1, G.has h.2.2.2.2.2⟩) ?o7p2 (js (fun _ _ _ h _ G => ⟨h.1.tg G, G.has h.2.1, G.has h.2.2.1, G.has h.2.2.2.1, G.has h.2.2.2.2.1, G.has h.2.2.2.2.2⟩) ?o8p2 (js (fun _ _ _ h _ G => ⟨h.1.tg G, G.has h.2.1, G.has h.2.2.1, G.has h.2.2.2.1, G.has h.2.2.2.2.1, G.has h.2.2.2.2.2⟩) ?o9p2 (js (fun _ _ _ h _ G => ⟨h.1.tg G, G.has h.2.1, G.has h.2.2.1, G.has h.2.2.2.1, G.has h.2.2.2.2.1, G.has h.2.2.2.2.2⟩) ?o10p2 (jW ?o11p2 (js (fun _ _ _ h _ G => ⟨h.1.tg G, G.has h.2.1, G.has h.2.2.1, G.has h.2.2.2.1, G.has h.2.2.2.2.1, G.has h.2.2.2.2.2⟩) ?o12p2 (js (fun _ _ _ h _ G => ⟨h.1.tg G, G.has h.2.1, G.has h.2.2.1, G.has h.2.2.2.1, G.has h.2.2.2.2.1, G.has h.2.2.2.2.2⟩) ?o13p2 (jW ?o14p2 (js (fun _ _ _ h _ G => ⟨h.1.tg G, G.has h.2.1, G.has h.2.2.1, G.has h.2.2.2.1, G.has h.2.2.2.2.1, G.has h.2.2.2.2.2⟩) ?o15p2 (js (fun _ _ _ h _ G => ⟨h.1.tg G, G.has h.2.1, G.has h.2.2.1, G.has h.2.2.2.1, G.has h.2.2.2.2.1, G.has h.2.2.2.2.2⟩) ?o16p2 (jW ?o17p2 zp)))))))))))))))))) ?restp2
  case hAp2 =>
    intro ptrs
    simp only [full, foldSlots, filledE, postE, List.foldl_cons, List.foldl_nil, List.getD_cons_zero, List.getD_cons_succ, jr,  List.set_cons_zero, List.set_cons_succ]
    exact rfl
  case o0p2 => exact fun _ _ _ _ _ _ _ _ => jg (v := pK r 0) _ rfl rfl rfl
  case o1p2 => exact fun _ _ _ _ _ _ _ _ => jg (v := pK r 0) _ rfl rfl rfl
  case o2p2 => exact fun _ _ _ _ _ _ _ _ => jg (v := pK r 0) _ rfl rfl rfl
  case o3p2 => exact fun _ _ _ _ _ _ _ _ => jg (v := pK r 0) _ rfl rfl rfl
  case o4p2 => exact fun _ _ x hx _ _ _ _ => jb (v := pK g1 52) rfl (jd 46 _ 6 rfl _ _ rfl _)
  case o5p2 => exact fun _ _ x hx _ _ _ _ => jb (v := .agg (c29 f.fi f.fn)) rfl (jf 29 _ rfl g1 52 2 rfl 46 _ hx.2.2.1 _ Try.underlying29 rfl si29 _)
  case o6p2 => exact fun _ _ x hx _ _ _ _ => jb (v := pK g1 19) rfl (jd 46 _ 3 rfl _ _ rfl _)
  case o7p2 => exact fun _ _ x hx _ _ _ _ => jb (v := .agg (c23 f.a)) rfl (jf 23 _ rfl g1 19 16 rfl 46 _ hx.2.2.1 _ Try.underlying23 rfl si23 _)
  case o8p2 => exact fun _ _ x hx _ _ _ _ => jb (v := .agg (c32 Sl.nil 0 0)) rfl (jy 32 _ rfl [] rfl _ (by kernel_rfl))
  case o9p2 => exact fun _ _ x hx _ _ _ _ => jb (v := pK r 0) rfl (jj _ rfl _ rfl)
  case o10p2 => exact fun _ _ x hx _ _ _ _ => jb (v := pK r 17) rfl (jd 34 _ 2 rfl _ _ rfl _)
  case o11p2 =>
    intro L ptrs x hx hL hed hno _
    have hk := hx.2.1
    have h14 : L 14 = false := hno 14 (by kernel_rfl)
    have h17 : L 17 = false := hno 17 (by kernel_rfl)
    rw [h17, h14, hL] at hk
    replace hk : x.heap[r]? = some (.cells (c34 id true false mi mn pi pn oth ⟨so, u.length, sc⟩ ((k : Nat) : Int) ((c : Nat) : Int)) 34 (0, 0)) := hk
    refine jL _ rfl 4 _ _ rfl r 17 rfl (vFa) rfl 34 _ hk #[vFa] rfl (by kernel_rfl) (nlB rfl) (by kernel_rfl) (c34 id true false mi mn pi pn oth ⟨so, u.length, sc⟩ ((k : Nat) : Int) ((c : Nat) : Int)) (by kernel_rfl) ?_
    intro y St
    exact ⟨⟨⟨hx.1.st St (.inr (by simp)), (by rw [show upd L 11 17 = false from h17, show upd L 11 14 = false from h14]; exact St.new), St.has (by omega) hx.2.2.1, St.has (by omega) hx.2.2.2.1, St.has (by omega) hx.2.2.2.2.1, St.has (by omega) hx.2.2.2.2.2⟩, StM.vals [0, 1, 2, 3, 4, 5, 6, 7, 8, 9, 10, 12, 13, 14, 15, 16, 17] (by kernel_rfl) ⟨⟨_, rfl⟩, ⟨_, rfl⟩, ⟨_, rfl⟩, ⟨_, rfl⟩, ⟨_, rfl⟩, ⟨_, rfl⟩, ⟨_, rfl⟩, ⟨_, rfl⟩, ⟨_, rfl⟩, ⟨_, rfl⟩, ⟨_, rfl⟩, ⟨_, rfl⟩, ⟨_, rfl⟩, ⟨_, rfl⟩, ⟨_, rfl⟩, ⟨_, rfl⟩, ⟨_, rfl⟩, trivial⟩⟩, rfl⟩
  case o12p2 => exact fun _ _ x hx _ _ _ _ => jb (v := pK r 0) rfl (jj _ rfl _ rfl)
  case o13p2 => exact fun _ _ x hx _ _ _ _ => jb (v := pK r 20) rfl (jd 34 _ 4 rfl _ _ rfl _)
  case o14p2 =>
    intro L ptrs x hx hL hed hno _
    have hk := hx.2.1
    have h11 : L 11 = true := hed 11 (by kernel_rfl)
    have h17 : L 17 = false := hno 17 (by kernel_rfl)
    rw [h17, hL, h11] at hk
    replace hk : x.heap[r]? = some (.cells (c34 id true false mi mn pi pn oth ⟨so, u.length, sc⟩ ((k : Nat) : Int) ((c : Nat) : Int)) 34 (0, 0)) := hk
    refine jL _ rfl 29 _ _ rfl r 20 rfl (.agg (c29 f.fi f.fn)) rfl 34 _ hk (c29 f.fi f.fn) rfl (by kernel_rfl) (nlB rfl) (by kernel_rfl) (c34 id true false mi mn f.fi f.fn oth ⟨so, u.length, sc⟩ ((k : Nat) : Int) ((c : Nat) : Int)) (by kernel_rfl) ?_
    intro y St
    exact ⟨⟨⟨hx.1.st St (.inr (by simp)), (by rw [show upd L 14 17 = false from h17]; exact St.new), St.has (by omega) hx.2.2.1, St.has (by omega) hx.2.2.2.1, St.has (by omega) hx.2.2.2.2.1, St.has (by omega) hx.2.2.2.2.2⟩, StM.vals [0, 1, 2, 3, 4, 5, 6, 7, 8, 9, 10, 11, 12, 13, 15, 16, 17] (by kernel_rfl) ⟨⟨_, rfl⟩, ⟨_, rfl⟩, ⟨_, rfl⟩, ⟨_, rfl⟩, ⟨_, rfl⟩, ⟨_, rfl⟩, ⟨_, rfl⟩, ⟨_, rfl⟩, ⟨_, rfl⟩, ⟨_, rfl⟩, ⟨_, rfl⟩, ⟨_, rfl⟩, ⟨_, rfl⟩, ⟨_, rfl⟩, ⟨_, rfl⟩, ⟨_, rfl⟩, ⟨_, rfl⟩, trivial⟩⟩, rfl⟩
  case o15p2 => exact fun _ _ x hx _ _ _ _ => jb (v := pK r 0) rfl (jj _ rfl _ rfl)
  case o16p2 => exact fun _ _ x hx _ _ _ _ => jb (v := pK r 22) rfl (jd 34 _ 5 rfl _ _ rfl _)
  case o17p2 =>
    intro L ptrs x hx hL hed hno _
    have hk := hx.2.1
    have h11 : L 11 = true := hed 11 (by kernel_rfl)
    have h14 : L 14 = true := hed 14 (by kernel_rfl)
    rw [hL, h14, h11] at hk
    replace hk : x.heap[r]? = some (.cells (c34 id true false mi mn f.fi f.fn oth ⟨so, u.length, sc⟩ ((k : Nat) : Int) ((c : Nat) : Int)) 34 (0, 0)) := hk
    refine jL _ rfl 23 _ _ rfl r 22 rfl (.agg (c23 f.a)) rfl 34 _ hk (c23 f.a) rfl (by kernel_rfl) (nlB rfl) (by kernel_rfl) (c34 id true false mi mn f.fi f.fn f.a ⟨so, u.length, sc⟩ ((k : Nat) : Int) ((c : Nat) : Int)) (by kernel_rfl) ?_
    intro y St
    exact ⟨⟨⟨hx.1.st St (.inr (by simp)), St.new, St.has (by omega) hx.2.2.1, St.has (by omega) hx.2.2.2.1, St.has (by omega) hx.2.2.2.2.1, St.has (by omega) hx.2.2.2.2.2⟩, StM.vals [0, 1, 2, 3, 4, 5, 6, 7, 8, 9, 10, 11, 12, 13, 14, 15, 16] (by kernel_rfl) ⟨⟨_, rfl⟩, ⟨_, rfl⟩, ⟨_, rfl⟩, ⟨_, rfl⟩, ⟨_, rfl⟩, ⟨_, rfl⟩, ⟨_, rfl⟩, ⟨_, rfl⟩, ⟨_, rfl⟩, ⟨_, rfl⟩, ⟨_, rfl⟩, ⟨_, rfl⟩, ⟨_, rfl⟩, ⟨_, rfl⟩, ⟨_, rfl⟩, ⟨_, rfl⟩, ⟨_, rfl⟩, trivial⟩⟩, rfl⟩
  intro ptrs w8 HJ _
  simp only [List.drop_succ_cons, List.drop_zero]
  clear GG kr kg1 kg2 kg3 kg4
  obtain ⟨GG, kr, kg1, kg2, kg3, kg4⟩ := HJ
  replace kr : w8.heap[r]? = some (.cells (c34 id true false mi mn f.fi f.fn f.a ⟨so, u.length, sc⟩ ((k : Nat) : Int) ((c : Nat) : Int)) 34 (0, 0)) := kr
  refine sv 63 (pK r 0) (jj _ rfl _ rfl) (sv 64 (pK r 38) (jd 34 _ 6 rfl _ _ rfl _) ?_)
  refine jn rfl rfl 32 _ _ rfl r 38 rfl (.agg (c32 Sl.nil 0 0)) rfl 34 _ kr (c32 Sl.nil 0 0) rfl (by kernel_rfl) (nlB rfl) (by kernel_rfl) (c34 id true false mi mn f.fi f.fn f.a Sl.nil 0 0) (by kernel_rfl) ?_
  intro w10 St
  replace kg1 := St.has (by omega) kg1
  replace kg2 := St.has (by omega) kg2
  replace kg3 := St.has (by omega) kg3
  replace kg4 := St.has (by omega) kg4
  replace GG := GG.st St (.inr (by simp))
  replace kr := St.new
  clear St
  refine wpList_nil (jc (wp_seq (wp_seq ?_)))
  refine jk (A := ?Ax25) 6 [(0, 65), (1, 66), (2, 67), (3, 68), (4, 69), (5, 70)] [.val (pK g1 54), .val (.agg (c29 f.ti f.tn)), .val (pK r 0), .val (pK r 0), .val (pK r 18), .val (.agg (c29 mi mn))] follows (by kernel_rfl) rfl ?hAx25 (ja ?o0x25 (ja ?o1x25 (ja ?o2x25 (ja ?o3x25 (ja ?o4x25 (ja ?o5x25 jw)))))) ?restx25
  case hAx25 =>
    intro ptrs
    simp only [full, foldSlots, filledE, postE, List.foldl_cons, List.foldl_nil, List.getD_cons_zero, List.getD_cons_succ, jr, List.set_cons_zero, List.set_cons_succ]
    exact rfl
  case o0x25 => exact fun _ _ hw _ => jb (v := pK g1 54) rfl (jd 46 _ 7 rfl _ _ rfl _)
  case o1x25 => exact fun _ _ hw _ => jb (v := .agg (c29 f.ti f.tn)) rfl (jf 29 _ rfl g1 54 2 rfl 46 _ (hw.has kg1) _ Try.underlying29 rfl si29 _)
  case o2x25 => exact fun _ _ _ _ => jg (v := pK r 0) _ rfl rfl rfl
  case o3x25 => exact fun _ _ hw _ => jb (v := pK r 0) rfl (jj _ rfl _ rfl)
  case o4x25 => exact fun _ _ hw _ => jb (v := pK r 18) rfl (jd 34 _ 3 rfl _ _ rfl _)
  case o5x25 => exact fun _ _ hw _ => jb (v := .agg (c29 mi mn)) rfl (jf 29 _ rfl r 18 2 rfl 34 _ (hw.has kr) _ Try.underlying29 rfl si29 _)
  intro ptrs w11 GD hxE
  simp only [List.drop_succ_cons, List.drop_zero]
  replace kr := GD.has kr
  replace kg1 := GD.has kg1
  replace kg2 := GD.has kg2
  replace kg3 := GD.has kg3
  replace kg4 := GD.has kg4
  replace GG := GG.drew.tg GD
  clear GD
  refine sv 71 (vTr) (jH _ _ _ rfl f.ti f.tn mi mn rfl rfl true (hs) _) (mv 72 (vTr) (jI 73 rfl rfl (pK r 0) (rfl) ?_))
  refine nr ?_; intro U h; simp only [z0, z1] at h; subst h
  refine jI 74 rfl rfl (pK r 0) (jj _ rfl _ rfl) (jI 75 rfl rfl (pK r 17) (jd 34 _ 2 rfl _ _ rfl _) (jI 76 rfl rfl (vFa) (jh 4 _ rfl r 17 rfl 34 _ kr (na4 _) _ rfl) (jI 77 rfl rfl (vTr) (jE _ _ rfl false rfl) (mv 78 (vTr) ?_))))
  refine nr ?_; intro U h; simp only [z0, z1] at h; subst h
  refine wpList_nil (jc (wp_cond_true rfl (wp_region_lit (mv 79 (pK r 0) (sv 80 (pK r 0) (jj _ rfl _ rfl) (sv 81 (pK r 17) (jd 34 _ 2 rfl _ _ rfl _) ?_))))))
  refine jn rfl rfl 4 _ _ rfl r 17 rfl (vTr) rfl 34 _ kr #[vTr] rfl (by kernel_rfl) (nlB rfl) (by kernel_rfl) (c34 id true true mi mn f.fi f.fn f.a Sl.nil 0 0) (by kernel_rfl) ?_
  intro w13 St
  replace kg1 := St.has (by omega) kg1
  replace kg2 := St.has (by omega) kg2
  replace kg3 := St.has (by omega) kg3
  replace kg4 := St.has (by omega) kg4
  replace GG := GG.st St (.inr (by simp))
  replace kr := St.new
  clear St
  refine sv 82 (pK g4 1) (jd 62 _ 1 rfl _ _ rfl _) ?_
  refine jn rfl rfl 4 _ _ rfl g4 1 rfl (vTr) rfl 62 _ kg4 #[vTr] rfl (by kernel_rfl) (nlB rfl) (by kernel_rfl) (c62 false true Sl.nil false Sl.nil) (by kernel_rfl) ?_
  intro w15 St
  replace kr := St.has (by omega) kr
  replace kg1 := St.has (by omega) kg1
  replace kg2 := St.has (by omega) kg2
  replace kg3 := St.has (by omega) kg3
  replace GG := GG.st St (.inl bg4)
  replace kg4 := St.new
  clear St
  refine wpList_nil (jc (wp_seq ?_))
  refine jk (A := ?Ax26) 13 [(0, 83), (1, 84), (2, 85), (3, 86), (4, 87), (5, 88), (6, 89), (7, 90), (8, 91), (9, 92), (10, 93), (11, 94), (12, 95)] [.val (pK r 0), .val (pK r 0), .val (pK r 18), .val (.agg (c29 mi mn)), .val (pK r 0), .val (pK r 0), .val (pK r 20), .val (.agg (c29 f.fi f.fn)), .val (pK r 0), .val (pK r 0), .val (pK r 38), .val (pK r 40), .val (iK 0)] follows (by kernel_rfl) rfl ?hAx26 (ja ?o0x26 (ja ?o1x26 (ja ?o2x26 (ja ?o3x26 (ja ?o4x26 (ja ?o5x26 (ja ?o6x26 (ja ?o7x26 (ja ?o8x26 (ja ?o9x26 (ja ?o10x26 (ja ?o11x26 (ja ?o12x26 jw))))))))))))) ?restx26
  case hAx26 =>
    intro ptrs
    simp only [full, foldSlots, filledE, postE, List.foldl_cons, List.foldl_nil, List.getD_cons_zero, List.getD_cons_succ, jr, List.set_cons_zero, List.set_cons_succ]
    exact rfl
  case o0x26 => exact fun _ _ _ _ => jg (v := pK r 0) _ rfl rfl rfl
  case o1x26 => exact fun _ _ hw _ => jb (v := pK r 0) rfl (jj _ rfl _ rfl)
  case o2x26 => exact fun _ _ hw _ => jb (v := pK r 18) rfl (jd 34 _ 3 rfl _ _ rfl _)
  case o3x26 => exact fun _ _ hw _ => jb (v := .agg (c29 mi mn)) rfl (jf 29 _ rfl r 18 2 rfl 34 _ (hw.has kr) _ Try.underlying29 rfl si29 _)
  case o4x26 => exact fun _ _ _ _ => jg (v := pK r 0) _ rfl rfl rfl
  case o5x26 => exact fun _ _ hw _ => jb (v := pK r 0) rfl (jj _ rfl _ rfl)
  case o6x26 => exact fun _ _ hw _ => jb (v := pK r 20) rfl (jd 34 _ 4 rfl _ _ rfl _)
  case o7x26 => exact fun _ _ hw _ => jb (v := .agg (c29 f.fi f.fn)) rfl (jf 29 _ rfl r 20 2 rfl 34 _ (hw.has kr) _ Try.underlying29 rfl si29 _)
  case o8x26 => exact fun _ _ _ _ => jg (v := pK r 0) _ rfl rfl rfl
  case o9x26 => exact fun _ _ hw _ => jb (v := pK r 0) rfl (jj _ rfl _ rfl)
  case o10x26 => exact fun _ _ hw _ => jb (v := pK r 38) rfl (jd 34 _ 6 rfl _ _ rfl _)
  case o11x26 => exact fun _ _ hw _ => jb (v := pK r 40) rfl (jd 32 _ 2 rfl _ _ rfl _)
  case o12x26 => exact fun _ _ hw _ => jb (v := iK 0) rfl (jh 2 _ rfl r 40 rfl 34 _ (hw.has kr) (na2 _) _ rfl)
  intro ptrs w16 GD hxE
  simp only [List.drop_succ_cons, List.drop_zero]
  replace kr := GD.has kr
  replace kg1 := GD.has kg1
  replace kg2 := GD.has kg2
  replace kg3 := GD.has kg3
  replace kg4 := GD.has kg4
  replace GG := GG.drew.tg GD
  clear GD
  refine sv 96 (.agg (c46 3 zF 0 false zF zF 0 mi mn f.fi f.fn Sl.nil Sl.nil zF 0 zF Sl.nil 0 0 Sl.nil)) (jy 46 _ rfl [(0, iK 3), (6, .agg (c29 mi mn)), (7, .agg (c29 f.fi f.fn)), (5, iK 0)] rfl _ (by kernel_rfl)) ?_
  refine nr ?_; intro U h; simp only [z0, z1] at h; subst h
  refine zk 97 rfl rfl 50 1 _ rfl [(0, .agg (c46 3 zF 0 false zF zF 0 mi mn f.fi f.fn Sl.nil Sl.nil zF 0 zF Sl.nil 0 0 Sl.nil))] rfl (c46 3 zF 0 false zF zF 0 mi mn f.fi f.fn Sl.nil Sl.nil zF 0 zF Sl.nil 0 0 Sl.nil) 46 (by kernel_rfl) ?_
  intro w17 g5 G eg5 kg5
  have bg5 := jl GG eg5
  have drg5 := je kr eg5
  have dg1g5 := je kg1 eg5
  have dg2g5 := je kg2 eg5
  have dg3g5 := je kg3 eg5
  have dg4g5 := je kg4 eg5
  replace kr := G.has kr
  replace kg1 := G.has kg1
  replace kg2 := G.has kg2
  replace kg3 := G.has kg3
  replace kg4 := G.has kg4
  replace GG := GG.tg G
  clear G eg5
  refine sv 98 (pK g4 4) (jd 62 _ 4 rfl _ _ rfl _) ?_
  refine jn rfl rfl 50 _ _ rfl g4 4 rfl (.slice (some ⟨g5, 0, none⟩) 1 1) rfl 62 _ kg4 #[.slice (some ⟨g5, 0, none⟩) 1 1] rfl (by kernel_rfl) (nlB rfl) (by kernel_rfl) (c62 false true Sl.nil false ⟨some ⟨g5, 0, none⟩, 1, 1⟩) (by kernel_rfl) ?_
  intro w19 St
  replace kr := St.has (by omega) kr
  replace kg1 := St.has (by omega) kg1
  replace kg2 := St.has (by omega) kg2
  replace kg3 := St.has (by omega) kg3
  replace kg5 := St.has (by omega) kg5
  replace GG := GG.st St (.inl bg4)
  replace kg4 := St.new
  clear St
  refine wpList_nil (jc (wp_seq ?_))
  refine jk (A := ?Ax27) 6 [(0, 99), (1, 100), (2, 101), (3, 102), (4, 103), (5, 104)] [.val (pK g1 54), .val (.agg (c29 f.ti f.tn)), .val (pK r 0), .val (pK r 0), .val (pK r 18), .val (.agg (c29 mi mn))] follows (by kernel_rfl) rfl ?hAx27 (ja ?o0x27 (ja ?o1x27 (ja ?o2x27 (ja ?o3x27 (ja ?o4x27 (ja ?o5x27 jw)))))) ?restx27
  case hAx27 =>
    intro ptrs
    simp only [full, foldSlots, filledE, postE, List.foldl_cons, List.foldl_nil, List.getD_cons_zero, List.getD_cons_succ, jr, List.set_cons_zero, List.set_cons_succ]
    exact rfl
  case o0x27 => exact fun _ _ hw _ => jb (v := pK g1 54) rfl (jd 46 _ 7 rfl _ _ rfl _)
  case o1x27 => exact fun _ _ hw _ => jb (v := .agg (c29 f.ti f.tn)) rfl (jf 29 _ rfl g1 54 2 rfl 46 _ (hw.has kg1) _ Try.underlying29 rfl si29 _)
  case o2x27 => exact fun _ _ _ _ => jg (v := pK r 0) _ rfl rfl rfl
  case o3x27 => exact fun _ _ hw _ => jb (v := pK r 0) rfl (jj _ rfl _ rfl)
  case o4x27 => exact fun _ _ hw _ => jb (v := pK r 18) rfl (jd 34 _ 3 rfl _ _ rfl _)
  case o5x27 => exact fun _ _ hw _ => jb (v := .agg (c29 mi mn)) rfl (jf 29 _ rfl r 18 2 rfl 34 _ (hw.has kr) _ Try.underlying29 rfl si29 _)
  intro ptrs w20 GD hxE
  simp only [List.drop_succ_cons, List.drop_zero]
  replace kr := GD.has kr
  replace kg1 := GD.has kg1
  replace kg2 := GD.has kg2
  replace kg3 := GD.has kg3
  replace kg4 := GD.has kg4
  replace kg5 := GD.has kg5
  replace GG := GG.drew.tg GD
  clear GD
  refine sv 105 (vFa) (zq _ _ _ rfl f.ti f.tn mi mn rfl rfl false (by rw [hs]; rfl) _) (mv 106 (vFa) (jI 107 rfl rfl (pK g4 1) (jd 62 _ 1 rfl _ _ rfl _) ?_))
  refine nr ?_; intro U h; simp only [z0, z1] at h; subst h
  refine jI 108 rfl rfl (vTr) (jh 4 _ rfl g4 1 rfl 62 _ kg4 (na4 _) _ rfl) (mv 109 (vTr) (wpList_nil (jc (wp_cond_true rfl (wp_region_lit (mv 110 (pK r 0) ?_))))))
  refine jz 111 rfl rfl _ 36 Try.call36 rfl rfl _ rfl [pK r 0] rfl (zE _ r B id true true mi mn f.fi f.fn f.a none 0 [] 0 0 (WX.new kr H.base (by decide))) ?_
  intro w21 G
  replace kr := G.has kr
  replace kg1 := G.has kg1
  replace kg2 := G.has kg2
  replace kg3 := G.has kg3
  replace kg4 := G.has kg4
  replace kg5 := G.has kg5
  replace GG := GG.tg G
  clear G
  refine zk 112 rfl rfl 50 1 _ rfl [(0, .agg (c46 1 zF 0 false id zF 0 mi mn f.fi f.fn Sl.nil Sl.nil zF 0 zF Sl.nil 0 0 Sl.nil))] rfl (c46 1 zF 0 false id zF 0 mi mn f.fi f.fn Sl.nil Sl.nil zF 0 zF Sl.nil 0 0 Sl.nil) 46 (by kernel_rfl) ?_
  intro w22 g6 G eg6 kg6
  have bg6 := jl GG eg6
  have drg6 := je kr eg6
  have dg1g6 := je kg1 eg6
  have dg2g6 := je kg2 eg6
  have dg3g6 := je kg3 eg6
  have dg4g6 := je kg4 eg6
  have dg5g6 := je kg5 eg6
  replace kr := G.has kr
  replace kg1 := G.has kg1
  replace kg2 := G.has kg2
  replace kg3 := G.has kg3
  replace kg4 := G.has kg4
  replace kg5 := G.has kg5
  replace GG := GG.tg G
  clear G eg6
  refine nr ?_; intro U h; simp only [z0, z1] at h; subst h
  refine sv 113 (pK g4 4) (jd 62 _ 4 rfl _ _ rfl _) ?_
  refine jn rfl rfl 50 _ _ rfl g4 4 rfl (.slice (some ⟨g6, 0, none⟩) 1 1) rfl 62 _ kg4 #[.slice (some ⟨g6, 0, none⟩) 1 1] rfl (by kernel_rfl) (nlB rfl) (by kernel_rfl) (c62 false true Sl.nil false ⟨some ⟨g6, 0, none⟩, 1, 1⟩) (by kernel_rfl) ?_
  intro w24 St
  replace kr := St.has (by omega) kr
  replace kg1 := St.has (by omega) kg1
  replace kg2 := St.has (by omega) kg2
  replace kg3 := St.has (by omega) kg3
  replace kg5 := St.has (by omega) kg5
  replace kg6 := St.has (by omega) kg6
  replace GG := GG.st St (.inl bg4)
  replace kg4 := St.new
  clear St
  refine wpList_nil (zh (jc (wp_seq (wp_region_lit (sv 203 (.agg (c62 false true Sl.nil false ⟨some ⟨g6, 0, none⟩, 1, 1⟩)) (jf 62 _ rfl g4 0 5 rfl 62 _ kg4 _ Try.underlying62 rfl si62 _) ?_)))))
  refine jn rfl rfl 62 _ _ rfl g3 0 rfl (.agg (c62 false true Sl.nil false ⟨some ⟨g6, 0, none⟩, 1, 1⟩)) rfl 62 _ kg3 (c62 false true Sl.nil false ⟨some ⟨g6, 0, none⟩, 1, 1⟩) rfl (by kernel_rfl) (nlB rfl) (by kernel_rfl) (c62 false true Sl.nil false ⟨some ⟨g6, 0, none⟩, 1, 1⟩) (by kernel_rfl) ?_
  intro w26 St
  replace kr := St.has (by omega) kr
  replace kg1 := St.has (by omega) kg1
  replace kg2 := St.has (by omega) kg2
  replace kg4 := St.has (by omega) kg4
  replace kg5 := St.has (by omega) kg5
  replace kg6 := St.has (by omega) kg6
  replace GG := GG.st St (.inl bg3)
  replace kg3 := St.new
  clear St
  refine wpList_nil (jc (wp_ret ?_))
  refine bodyPost_ret (results_cell_row Try.results22 _ _ g3 62 _ (0, 0) _ rfl kg3 Try.underlying62 rfl (by kernel_rfl)) rfl ?_
  exact ⟨_, (r :: blk none), [], rfl, TV.one (f := pfr ⟨1, id, mi, mn, f.fi, f.fn, 0, []⟩ Sl.nil Sl.nil Sl.nil Sl.nil) kg6 (zQ _ _ _ _ _ _ _ _), ⟨B, none, 0, [], WX.new kr H.base (by decide), Nat.zero_le _, rfl, rfl, rfl⟩, GG.p1, Fresh.rnew, Fresh.nil0 _ _⟩
theorem uZ (w : World) (r B : Nat) (id : Nat → Nat) (mi mn pi pn : Int) (oth : Nat → Nat) (so : Option Addr) (sc : Nat) (u : List RV) (k c : Nat) (H : WX 34 (c34 id true true mi mn pi pn oth ⟨so, u.length, sc⟩ ((k : Nat) : Int) ((c : Nat) : Int)) w r B so sc u) (_hk : k ≤ u.length) (f : Fr) (ni nn : Int) (hf1 : f.kind = 1) (hl : lessN f.fi f.fn pi pn = false) (hz : (decide (f.fi = 0) && decide (f.fn = 0)) = false) (hg : lessN pi pn f.fi f.fn = true) (hs : (decide (f.ti = ni) && decide (f.tn = nn)) = false) : Calls Try.prog 22 #[pK r 0, .agg (frA f), .agg (c29 ni nn)] w (HearD w r id (r :: blk so) (txb u) (⟨true, false, ni, nn, f.fi, f.fn, f.a, 0, [], 0⟩, ⟨true, false, [], false, [⟨1, id, ni, nn, f.fi, f.fn, 0, []⟩]⟩)) := by
  refine jp Try.func22 rfl Try.ntmps22 [pK r 0, .agg (frA f), .agg (c29 ni nn)] ?_
  intro U h; simp only [List.length_cons, List.length_nil, List.cons_append, List.nil_append, Nat.reduceAdd, Nat.reduceSub, List.reduceReplicate] at h; subst h
  have GG := GroS.refl [r] w
  have kr := H.box
  have hpl := H.lt
  have hBl := H.bl
  refine wp_seq (wp_region_lit ?_)
  refine jB 4 rfl rfl 46 _ rfl _ rfl (frA f) rfl ?_
  intro w1 g1 G eg1 kg1
  have bg1 := jl GG eg1
  have drg1 := je kr eg1
  replace kr := G.has kr
  replace GG := GG.tg G
  clear G eg1
  refine jB 5 rfl rfl 29 _ rfl _ rfl (c29 ni nn) rfl ?_
  intro w2 g2 G eg2 kg2
  have bg2 := jl GG eg2
  have drg2 := je kr eg2
  have dg1g2 := je kg1 eg2
  replace kr := G.has kr
  replace kg1 := G.has kg1
  replace GG := GG.tg G
  clear G eg2
  refine jq 6 rfl rfl 62 rfl _ zv62 _ rfl ?_
  intro w3 g3 G eg3 kg3
  have bg3 := jl GG eg3
  have drg3 := je kr eg3
  have dg1g3 := je kg1 eg3
  have dg2g3 := je kg2 eg3
  replace kr := G.has kr
  replace kg1 := G.has kg1
  replace kg2 := G.has kg2
  replace GG := GG.tg G
  clear G eg3
  refine wpList_nil (jc (wp_seq (wp_region_lit ?_)))
  refine jq 7 rfl rfl 62 rfl _ zv62 _ rfl ?_
  intro w4 g4 G eg4 kg4
  have bg4 := jl GG eg4
  have drg4 := je kr eg4
  have dg1g4 := je kg1 eg4
  have dg2g4 := je kg2 eg4
  have dg3g4 := je kg3 eg4
  replace kr := G.has kr
  replace kg1 := G.has kg1
  replace kg2 := G.has kg2
  replace kg3 := G.has kg3
  replace GG := GG.tg G
  clear G eg4
  refine wpList_nil (jc (wp_seq (wp_seq (wp_region_lit (mv 8 (pK r 0) ?_)))))
  refine nr ?_; intro U h; simp only [z0, z1] at h; subst h
  refine sv 9 (pK r 0) (jj _ rfl _ rfl) (sv 10 (pK r 16) (jd 34 _ 1 rfl _ _ rfl _) (sv 11 (vTr) (jh 4 _ rfl r 16 rfl 34 _ kr (na4 _) _ rfl) (sv 12 (vFa) (jE _ _ rfl true rfl) (wpList_nil (jc (wp_cond_false rfl (wp_skip (jc (wp_seq (wp_seq (wp_region_lit (sv 14 (pK g1 0) (jd 46 _ 0 rfl _ _ rfl _) ?_))))))))))))
  refine nr ?_; intro U h; simp only [z0, z1] at h; subst h
  refine sv 15 (iK f.kind) (jh 3 _ rfl g1 0 rfl 46 _ kg1 (na3 _) _ rfl) (wpList_nil (jc (wp_block (wp_seq (wp_region_lit (sv 17 (vTr) (jo 3 .i64 _ _ _ rfl Try.underlying3 f.kind 1 rfl rfl true (decide_eq_true hf1) _) (mv 16 (vTr) (wpList_nil (jc (wp_cond_true rfl (wp_seq (wp_seq ?_))))))))))))
  refine jk (A := ?Ax28) 11 [(0, 18), (1, 19), (2, 20), (3, 21), (4, 22), (5, 23), (6, 24), (7, 25), (8, 26), (9, 27), (10, 28)] [.val (pK g1 52), .val (.agg (c29 f.fi f.fn)), .val (pK r 0), .val (pK r 0), .val (pK r 20), .val (.agg (c29 pi pn)), .val (vFa), .val (vFa), .val (pK g1 52), .val (.agg (c29 f.fi f.fn)), .val (.agg (c29 0 0))] follows (by kernel_rfl) rfl ?hAx28 (ja ?o0x28 (ja ?o1x28 (ja ?o2x28 (ja ?o3x28 (ja ?o4x28 (ja ?o5x28 (ja ?o6x28 (ja ?o7x28 (ja ?o8x28 (ja ?o9x28 (ja ?o10x28 jw))))))))))) ?restx28
  case hAx28 =>
    intro ptrs
    simp only [full, foldSlots, filledE, postE, List.foldl_cons, List.foldl_nil, List.getD_cons_zero, List.getD_cons_succ, jr, List.set_cons_zero, List.set_cons_succ]
    exact rfl
  case o0x28 => exact fun _ _ hw _ => jb (v := pK g1 52) rfl (jd 46 _ 6 rfl _ _ rfl _)
  case o1x28 => exact fun _ _ hw _ => jb (v := .agg (c29 f.fi f.fn)) rfl (jf 29 _ rfl g1 52 2 rfl 46 _ (hw.has kg1) _ Try.underlying29 rfl si29 _)
  case o2x28 => exact fun _ _ _ _ => jg (v := pK r 0) _ rfl rfl rfl
  case o3x28 => exact fun _ _ hw _ => jb (v := pK r 0) rfl (jj _ rfl _ rfl)
  case o4x28 => exact fun _ _ hw _ => jb (v := pK r 20) rfl (jd 34 _ 4 rfl _ _ rfl _)
  case o5x28 => exact fun _ _ hw _ => jb (v := .agg (c29 pi pn)) rfl (jf 29 _ rfl r 20 2 rfl 34 _ (hw.has kr) _ Try.underlying29 rfl si29 _)
  case o6x28 => exact fun _ _ hw _ => jT (.val (vFa)) rfl _ 46 Try.call46 rfl rfl _ rfl [.agg (c29 f.fi f.fn), .agg (c29 pi pn)] rfl (((show lessN f.fi f.fn pi pn = false from hl) ▸ zj _ f.fi f.fn pi pn).mono fun e w' ⟨he, hg⟩ => ⟨_, he, hg, rfl⟩)
  case o7x28 => exact fun _ _ _ _ => jg (v := vFa) _ rfl rfl rfl
  case o8x28 => exact fun _ _ hw _ => jb (v := pK g1 52) rfl (jd 46 _ 6 rfl _ _ rfl _)
  case o9x28 => exact fun _ _ hw _ => jb (v := .agg (c29 f.fi f.fn)) rfl (jf 29 _ rfl g1 52 2 rfl 46 _ (hw.has kg1) _ Try.underlying29 rfl si29 _)
  case o10x28 => exact fun _ _ hw _ => jb (v := .agg (c29 0 0)) rfl (jy 29 _ rfl [] rfl _ (by kernel_rfl))
  intro ptrs w5 GD hxE
  simp only [List.drop_succ_cons, List.drop_zero]
  replace kr := GD.has kr
  replace kg1 := GD.has kg1
  replace kg2 := GD.has kg2
  replace kg3 := GD.has kg3
  replace kg4 := GD.has kg4
  replace GG := GG.drew.tg GD
  clear GD
  refine jI 29 rfl rfl (vFa) (jH _ _ _ rfl f.fi f.fn 0 0 rfl rfl false (hz) _) (mv 30 (vFa) ?_)
  refine nr ?_; intro U h; simp only [z0, z1] at h; subst h
  refine wpList_nil (jc (wp_cond_false rfl (wp_skip (jc (wp_seq (wp_seq ?_))))))
  refine jk (A := ?Ax29) 6 [(0, 32), (1, 33), (2, 34), (3, 35), (4, 36), (5, 37)] [.val (pK r 0), .val (pK r 0), .val (pK r 20), .val (.agg (c29 pi pn)), .val (pK g1 52), .val (.agg (c29 f.fi f.fn))] follows (by kernel_rfl) rfl ?hAx29 (ja ?o0x29 (ja ?o1x29 (ja ?o2x29 (ja ?o3x29 (ja ?o4x29 (ja ?o5x29 jw)))))) ?restx29
  case hAx29 =>
    intro ptrs
    simp only [full, foldSlots, filledE, postE, List.foldl_cons, List.foldl_nil, List.getD_cons_zero, List.getD_cons_succ, jr, List.set_cons_zero, List.set_cons_succ]
    exact rfl
  case o0x29 => exact fun _ _ _ _ => jg (v := pK r 0) _ rfl rfl rfl
  case o1x29 => exact fun _ _ hw _ => jb (v := pK r 0) rfl (jj _ rfl _ rfl)
  case o2x29 => exact fun _ _ hw _ => jb (v := pK r 20) rfl (jd 34 _ 4 rfl _ _ rfl _)
  case o3x29 => exact fun _ _ hw _ => jb (v := .agg (c29 pi pn)) rfl (jf 29 _ rfl r 20 2 rfl 34 _ (hw.has kr) _ Try.underlying29 rfl si29 _)
  case o4x29 => exact fun _ _ hw _ => jb (v := pK g1 52) rfl (jd 46 _ 6 rfl _ _ rfl _)
  case o5x29 => exact fun _ _ hw _ => jb (v := .agg (c29 f.fi f.fn)) rfl (jf 29 _ rfl g1 52 2 rfl 46 _ (hw.has kg1) _ Try.underlying29 rfl si29 _)
  intro ptrs w6 GD hxE
  simp only [List.drop_succ_cons, List.drop_zero]
  replace kr := GD.has kr
  replace kg1 := GD.has kg1
  replace kg2 := GD.has kg2
  replace kg3 := GD.has kg3
  replace kg4 := GD.has kg4
  replace GG := GG.drew.tg GD
  clear GD
  refine jz 38 rfl rfl _ 46 Try.call46 rfl rfl _ rfl [.agg (c29 pi pn), .agg (c29 f.fi f.fn)] rfl ((show lessN pi pn f.fi f.fn = true from hg) ▸ zj _ pi pn f.fi f.fn) ?_
  intro w7 G
  replace kr := G.has kr
  replace kg1 := G.has kg1
  replace kg2 := G.has kg2
  replace kg3 := G.has kg3
  replace kg4 := G.has kg4
  replace GG := GG.tg G
  clear G
  refine wpList_nil (jc (wp_cond_true rfl (wp_seq (wp_seq (wp_region_lit (mv 39 (pK r 0) (sv 40 (pK r 0) (jj _ rfl _ rfl) (sv 41 (pK r 17) (jd 34 _ 2 rfl _ _ rfl _) (sv 42 (vTr) (jh 4 _ rfl r 17 rfl 34 _ kr (na4 _) _ rfl) ?_)))))))))
  refine nr ?_; intro U h; simp only [z0, z1] at h; subst h
  refine wpList_nil (jc (wp_cond_true rfl (wp_seq (wp_region_lit (sv 43 (pK g4 0) (jd 62 _ 0 rfl _ _ rfl _) ?_)))))
  refine jn rfl rfl 4 _ _ rfl g4 0 rfl (vTr) rfl 62 _ kg4 #[vTr] rfl (by kernel_rfl) (nlB rfl) (by kernel_rfl) (c62 true false Sl.nil false Sl.nil) (by kernel_rfl) ?_
  intro w9 St
  replace kr := St.has (by omega) kr
  replace kg1 := St.has (by omega) kg1
  replace kg2 := St.has (by omega) kg2
  replace kg3 := St.has (by omega) kg3
  replace GG := GG.st St (.inl bg4)
  replace kg4 := St.new
  clear St
  refine wpList_nil (jc (wp_region_lit (mv 44 (pK r 0) (sv 45 (.agg (c29 ni nn)) (jf 29 _ rfl g2 0 2 rfl 29 _ kg2 _ Try.underlying29 rfl si29 _) (sv 46 (pK r 0) (jj _ rfl _ rfl) (sv 47 (pK r 18) (jd 34 _ 3 rfl _ _ rfl _) ?_))))))
  refine nr ?_; intro U h; simp only [z0, z1] at h; subst h
  refine jn rfl rfl 29 _ _ rfl r 18 rfl (.agg (c29 ni nn)) rfl 34 _ kr (c29 ni nn) rfl (by kernel_rfl) (nlB rfl) (by kernel_rfl) (c34 id true true ni nn pi pn oth ⟨so, u.length, sc⟩ ((k : Nat) : Int) ((c : Nat) : Int)) (by kernel_rfl) ?_
  intro w11 St
  replace kg1 := St.has (by omega) kg1
  replace kg2 := St.has (by omega) kg2
  replace kg3 := St.has (by omega) kg3
  replace kg4 := St.has (by omega) kg4
  replace GG := GG.st St (.inr (by simp))
  replace kr := St.new
  clear St
  refine wpList_nil (jc ?_)
  refine jR (A := ?Ap3) (fun L x => GroS [r] w x ∧ x.heap[r]? = some (.cells (cond (L 17) (c34 id true false ni nn f.fi f.fn f.a ⟨so, u.length, sc⟩ ((k : Nat) : Int) ((c : Nat) : Int)) (cond (L 14) (c34 id true false ni nn f.fi f.fn oth ⟨so, u.length, sc⟩ ((k : Nat) : Int) ((c : Nat) : Int)) (cond (L 11) (c34 id true false ni nn pi pn oth ⟨so, u.length, sc⟩ ((k : Nat) : Int) ((c : Nat) : Int)) (c34 id true true ni nn pi pn oth ⟨so, u.length, sc⟩ ((k : Nat) : Int) ((c : Nat) : Int))))) 34 (0, 0)) ∧ x.heap[g1]? = some (.cells (frA f) 46 (0, 0)) ∧ x.heap[g2]? = some (.cells (c29 ni nn) 29 (0, 0)) ∧ x.heap[g3]? = some (.cells (c62 false false Sl.nil false Sl.nil) 62 (0, 0)) ∧ x.heap[g4]? = some (.cells (c62 true false Sl.nil false Sl.nil) 62 (0, 0))) 18 [(0, 48), (1, 49), (2, 50), (3, 51), (4, 52), (5, 53), (6, 54), (7, 55), (8, 56), (9, 57), (10, 58), (12, 59), (13, 60), (15, 61), (16, 62)] [.val (pK r 0), .val (pK r 0), .val (pK r 0), .val (pK r 0), .val (pK g1 52), .val (.agg (c29 f.fi f.fn)), .val (pK g1 19), .val (.agg (c23 f.a)), .val (.agg (c32 Sl.nil 0 0)), .val (pK r 0), .val (pK r 17), .val undef, .val (pK r 0), .val (pK r 20), .val undef, .val (pK r 0), .val (pK r 22), .val undef] [] [] follows (by kernel_rfl) rfl (by kernel_rfl) (by decide) ⟨GG.drew, (Gro.refl _).drew.has kr, (Gro.refl _).drew.has kg1, (Gro.refl _).drew.has kg2, (Gro.refl _).drew.has kg3, (Gro.refl _).drew.has kg4⟩ ?hAp3 (js (fun _ _ _ h _ G => ⟨h.1.tg G, G.has h.2.1, G.has h.2.2.1, G.has h.2.2.2.1, G.has h.2.2.2.2.1, G.has h.2.2.2.2.2⟩) ?o0p3 (js (fun _ _ _ h _ G => ⟨h.1.tg G, G.has h.2.1, G.has h.2.2.1, G.has h.2.2.2.1, G.has h.2.2.2.2.1, G.has h.2.2.2.2.2⟩) ?o1p3 (js (fun _ _ _ h _ G => ⟨h.1.tg G, G.has h.2.1, G.has h.2.2.1, G.has h.2.2.2.1, G.has h.2.2.2.2.1, G.has h.2.2.2.2.2⟩) ?o2p3 (js (fun _ _ _ h _ G => ⟨h.1.tg G, G.has h.2.1, G.has h.2.2.1, G.has h.2.2.2.1, G.has h.2.2.2.2.1, G.has h.2.2.2.2.2⟩) ?o3p3 (js (fun _ _ _ h _ G => ⟨h.1.tg G, G.has h.2.1, G.has h.2.2.1, G.has h.2.2.2.1, G.has h.2.2.2.2.1, G.has h.2.2.2.2.2⟩) ?o4p3 (js (fun _ _ _ h _ G => ⟨h.1.tg G, G.has h.2.1, G.has h.2.2.1, G.has h.2.2.2.1, G.has h.2.2.2.2.1, G.has h.2.2.2.2.2⟩) ?o5p3 (js (fun _ _ _ h _ G => ⟨h.1.tg G, G.has h.2.1, G.has h.2.2.1, G.has h.2.2.2.1, G.has h.2.2.2.2.1, G.has h.2.2.2.2.2⟩) ?o6p3 (js (fun _ _ _ h _ G => ⟨h.1.tg G, G.has h.2.1, G.has h.2.2.1, G.has h.2.2.2.1, G.has h.2.2.2.2.1, G.has h.2.2.2.2.2⟩) ?o7p3 (js (fun _ _ _ h _ G => ⟨h.1.tg G, G.has h.2.1, G.has h.2.2.1, G.has h.2.2.2.1, G.has h.2.2.2.2.1, G.has h.2.2.2.2.2⟩) ?o8p3 (js (fun _ _ _ h _ G => ⟨h.1.tg G, G.has h.2.1, G.has h.2.2.1, G.has h.2.2.2.1, G.has h.2.2.2.2.1, G.has h.2.2.2.2.2⟩) ?o9p3 (js (fun _ _ _ h _ G => ⟨h.1.tg G, G.has h.2.1, G.has h.2.2.1, G.has h.2.2.2.1, G.has h.2.2.2.2.1, G.has h.2.2.2.2.2⟩) ?o10p3 (jW ?o11p3 (js (fun _ _ _ h _ G => ⟨h.1.tg G, G.has h.2.1, G.has h.2.2.1, G.has h.2.2.2.1, G.has h.2.2.2.2.1, G.has h.2.2.2.2.2⟩) ?o12p3 (js (fun _ _ _ h _ G => ⟨h.1.tg G, G.has h.2.1, G.has h.2.2.1, G.has h.2.2.2.1, G.has h.2.2.2.2.1, G.has h.2.2.2.2.2⟩) ?o13p3 (jW ?o14p3 (js (fun _ _ _ h _ G => ⟨h.1.tg G, G.has h.2.1, G.has h.2.2.1, G.has h.2.2.2.1, G.has h.2.2.2.2.1, G.has h.2.2.2.2.2⟩) ?o15p3 (js (fun _ _ _ h _ G => ⟨h.1.tg G, G.has h.2.1, G.has h.2.2.1, G.has h.2.2.2.1, G.has h.2.2.2.2.1, G.has h.2.2.2.2.2⟩) ?o16p3 (jW ?o17p3 zp)))))))))))))))))) ?restp3
  case hAp3 =>
    intro ptrs
    simp only [full, foldSlots, filledE, postE, List.foldl_cons, List.foldl_nil, List.getD_cons_zero, List.getD_cons_succ, jr,  List.set_cons_zero, List.set_cons_succ]
    exact rfl
  case o0p3 => exact fun _ _ _ _ _ _ _ _ => jg (v := pK r 0) _ rfl rfl rfl
  case o1p3 => exact fun _ _ _ _ _ _ _ _ => jg (v := pK r 0) _ rfl rfl rfl
  case o2p3 => exact fun _ _ _ _ _ _ _ _ => jg (v := pK r 0) _ rfl rfl rfl
  case o3p3 => exact fun _ _ _ _ _ _ _ _ => jg (v := pK r 0) _ rfl rfl rfl
  case o4p3 => exact fun _ _ x hx _ _ _ _ => jb (v := pK g1 52) rfl (jd 46 _ 6 rfl _ _ rfl _)
  case o5p3 => exact fun _ _ x hx _ _ _ _ => jb (v := .agg (c29 f.fi f.fn)) rfl (jf 29 _ rfl g1 52 2 rfl 46 _ hx.2.2.1 _ Try.underlying29 rfl si29 _)
  case o6p3 => exact fun _ _ x hx _ _ _ _ => jb (v := pK g1 19) rfl (jd 46 _ 3 rfl _ _ rfl _)
  case o7p3 => exact fun _ _ x hx _ _ _ _ => jb (v := .agg (c23 f.a)) rfl (jf 23 _ rfl g1 19 16 rfl 46 _ hx.2.2.1 _ Try.underlying23 rfl si23 _)
  case o8p3 => exact fun _ _ x hx _ _ _ _ => jb (v := .agg (c32 Sl.nil 0 0)) rfl (jy 32 _ rfl [] rfl _ (by kernel_rfl))
  case o9p3 => exact fun _ _ x hx _ _ _ _ => jb (v := pK r 0) rfl (jj _ rfl _ rfl)
  case o10p3 => exact fun _ _ x hx _ _ _ _ => jb (v := pK r 17) rfl (jd 34 _ 2 rfl _ _ rfl _)
  case o11p3 =>
    intro L ptrs x hx hL hed hno _
    have hk := hx.2.1
    have h14 : L 14 = false := hno 14 (by kernel_rfl)
    have h17 : L 17 = false := hno 17 (by kernel_rfl)
    rw [h17, h14, hL] at hk
    replace hk : x.heap[r]? = some (.cells (c34 id true true ni nn pi pn oth ⟨so, u.length, sc⟩ ((k : Nat) : Int) ((c : Nat) : Int)) 34 (0, 0)) := hk
    refine jL _ rfl 4 _ _ rfl r 17 rfl (vFa) rfl 34 _ hk #[vFa] rfl (by kernel_rfl) (nlB rfl) (by kernel_rfl) (c34 id true false ni nn pi pn oth ⟨so, u.length, sc⟩ ((k : Nat) : Int) ((c : Nat) : Int)) (by kernel_rfl) ?_
    intro y St
    exact ⟨⟨⟨hx.1.st St (.inr (by simp)), (by rw [show upd L 11 17 = false from h17, show upd L 11 14 = false from h14]; exact St.new), St.has (by omega) hx.2.2.1, St.has (by omega) hx.2.2.2.1, St.has (by omega) hx.2.2.2.2.1, St.has (by omega) hx.2.2.2.2.2⟩, StM.vals [0, 1, 2, 3, 4, 5, 6, 7, 8, 9, 10, 12, 13, 14, 15, 16, 17] (by kernel_rfl) ⟨⟨_, rfl⟩, ⟨_, rfl⟩, ⟨_, rfl⟩, ⟨_, rfl⟩, ⟨_, rfl⟩, ⟨_, rfl⟩, ⟨_, rfl⟩, ⟨_, rfl⟩, ⟨_, rfl⟩, ⟨_, rfl⟩, ⟨_, rfl⟩, ⟨_, rfl⟩, ⟨_, rfl⟩, ⟨_, rfl⟩, ⟨_, rfl⟩, ⟨_, rfl⟩, ⟨_, rfl⟩, trivial⟩⟩, rfl⟩
  case o12p3 => exact fun _ _ x hx _ _ _ _ => jb (v := pK r 0) rfl (jj _ rfl _ rfl)
  case o13p3 => exact fun _ _ x hx _ _ _ _ => jb (v := pK r 20) rfl (jd 34 _ 4 rfl _ _ rfl _)
  case o14p3 =>
    intro L ptrs x hx hL hed hno _
    have hk := hx.2.1
    have h11 : L 11 = true := hed 11 (by kernel_rfl)
    have h17 : L 17 = false := hno 17 (by kernel_rfl)
    rw [h17, hL, h11] at hk
    replace hk : x.heap[r]? = some (.cells (c34 id true false ni nn pi pn oth ⟨so, u.length, sc⟩ ((k : Nat) : Int) ((c : Nat) : Int)) 34 (0, 0)) := hk
    refine jL _ rfl 29 _ _ rfl r 20 rfl (.agg (c29 f.fi f.fn)) rfl 34 _ hk (c29 f.fi f.fn) rfl (by kernel_rfl) (nlB rfl) (by kernel_rfl) (c34 id true false ni nn f.fi f.fn oth ⟨so, u.length, sc⟩ ((k : Nat) : Int) ((c : Nat) : Int)) (by kernel_rfl) ?_
    intro y St
    exact ⟨⟨⟨hx.1.st St (.inr (by simp)), (by rw [show upd L 14 17 = false from h17]; exact St.new), St.has (by omega) hx.2.2.1, St.has (by omega) hx.2.2.2.1, St.has (by omega) hx.2.2.2.2.1, St.has (by omega) hx.2.2.2.2.2⟩, StM.vals [0, 1, 2, 3, 4, 5, 6, 7, 8, 9, 10, 11, 12, 13, 15, 16, 17] (by kernel_rfl) ⟨⟨_, rfl⟩, ⟨_, rfl⟩, ⟨_, rfl⟩, ⟨_, rfl⟩, ⟨_, rfl⟩, ⟨_, rfl⟩, ⟨_, rfl⟩, ⟨_, rfl⟩, ⟨_, rfl⟩, ⟨_, rfl⟩, ⟨_, rfl⟩, ⟨_, rfl⟩, ⟨_, rfl⟩, ⟨_, rfl⟩, ⟨_, rfl⟩, ⟨_, rfl⟩, ⟨_, rfl⟩, trivial⟩⟩, rfl⟩
  case o15p3 => exact fun _ _ x hx _ _ _ _ => jb (v := pK r 0) rfl (jj _ rfl _ rfl)
  case o16p3 => exact fun _ _ x hx _ _ _ _ => jb (v := pK r 22) rfl (jd 34 _ 5 rfl _ _ rfl _)
  case o17p3 =>
    intro L ptrs x hx hL hed hno _
    have hk := hx.2.1
    have h11 : L 11 = true := hed 11 (by kernel_rfl)
    have h14 : L 14 = true := hed 14 (by kernel_rfl)
    rw [hL, h14, h11] at hk
    replace hk : x.heap[r]? = some (.cells (c34 id true false ni nn f.fi f.fn oth ⟨so, u.length, sc⟩ ((k : Nat) : Int) ((c : Nat) : Int)) 34 (0, 0)) := hk
    refine jL _ rfl 23 _ _ rfl r 22 rfl (.agg (c23 f.a)) rfl 34 _ hk (c23 f.a) rfl (by kernel_rfl) (nlB rfl) (by kernel_rfl) (c34 id true false ni nn f.fi f.fn f.a ⟨so, u.length, sc⟩ ((k : Nat) : Int) ((c : Nat) : Int)) (by kernel_rfl) ?_
    intro y St
    exact ⟨⟨⟨hx.1.st St (.inr (by simp)), St.new, St.has (by omega) hx.2.2.1, St.has (by omega) hx.2.2.2.1, St.has (by omega) hx.2.2.2.2.1, St.has (by omega) hx.2.2.2.2.2⟩, StM.vals [0, 1, 2, 3, 4, 5, 6, 7, 8, 9, 10, 11, 12, 13, 14, 15, 16] (by kernel_rfl) ⟨⟨_, rfl⟩, ⟨_, rfl⟩, ⟨_, rfl⟩, ⟨_, rfl⟩, ⟨_, rfl⟩, ⟨_, rfl⟩, ⟨_, rfl⟩, ⟨_, rfl⟩, ⟨_, rfl⟩, ⟨_, rfl⟩, ⟨_, rfl⟩, ⟨_, rfl⟩, ⟨_, rfl⟩, ⟨_, rfl⟩, ⟨_, rfl⟩, ⟨_, rfl⟩, ⟨_, rfl⟩, trivial⟩⟩, rfl⟩
  intro ptrs w12 HJ _
  simp only [List.drop_succ_cons, List.drop_zero]
  clear GG kr kg1 kg2 kg3 kg4
  obtain ⟨GG, kr, kg1, kg2, kg3, kg4⟩ := HJ
  replace kr : w12.heap[r]? = some (.cells (c34 id true false ni nn f.fi f.fn f.a ⟨so, u.length, sc⟩ ((k : Nat) : Int) ((c : Nat) : Int)) 34 (0, 0)) := kr
  refine sv 63 (pK r 0) (jj _ rfl _ rfl) (sv 64 (pK r 38) (jd 34 _ 6 rfl _ _ rfl _) ?_)
  refine jn rfl rfl 32 _ _ rfl r 38 rfl (.agg (c32 Sl.nil 0 0)) rfl 34 _ kr (c32 Sl.nil 0 0) rfl (by kernel_rfl) (nlB rfl) (by kernel_rfl) (c34 id true false ni nn f.fi f.fn f.a Sl.nil 0 0) (by kernel_rfl) ?_
  intro w14 St
  replace kg1 := St.has (by omega) kg1
  replace kg2 := St.has (by omega) kg2
  replace kg3 := St.has (by omega) kg3
  replace kg4 := St.has (by omega) kg4
  replace GG := GG.st St (.inr (by simp))
  replace kr := St.new
  clear St
  refine wpList_nil (jc (wp_seq (wp_seq ?_)))
  refine jk (A := ?Ax30) 6 [(0, 65), (1, 66), (2, 67), (3, 68), (4, 69), (5, 70)] [.val (pK g1 54), .val (.agg (c29 f.ti f.tn)), .val (pK r 0), .val (pK r 0), .val (pK r 18), .val (.agg (c29 ni nn))] follows (by kernel_rfl) rfl ?hAx30 (ja ?o0x30 (ja ?o1x30 (ja ?o2x30 (ja ?o3x30 (ja ?o4x30 (ja ?o5x30 jw)))))) ?restx30
  case hAx30 =>
    intro ptrs
    simp only [full, foldSlots, filledE, postE, List.foldl_cons, List.foldl_nil, List.getD_cons_zero, List.getD_cons_succ, jr, List.set_cons_zero, List.set_cons_succ]
    exact rfl
  case o0x30 => exact fun _ _ hw _ => jb (v := pK g1 54) rfl (jd 46 _ 7 rfl _ _ rfl _)
  case o1x30 => exact fun _ _ hw _ => jb (v := .agg (c29 f.ti f.tn)) rfl (jf 29 _ rfl g1 54 2 rfl 46 _ (hw.has kg1) _ Try.underlying29 rfl si29 _)
  case o2x30 => exact fun _ _ _ _ => jg (v := pK r 0) _ rfl rfl rfl
  case o3x30 => exact fun _ _ hw _ => jb (v := pK r 0) rfl (jj _ rfl _ rfl)
  case o4x30 => exact fun _ _ hw _ => jb (v := pK r 18) rfl (jd 34 _ 3 rfl _ _ rfl _)
  case o5x30 => exact fun _ _ hw _ => jb (v := .agg (c29 ni nn)) rfl (jf 29 _ rfl r 18 2 rfl 34 _ (hw.has kr) _ Try.underlying29 rfl si29 _)
  intro ptrs w15 GD hxE
  simp only [List.drop_succ_cons, List.drop_zero]
  replace kr := GD.has kr
  replace kg1 := GD.has kg1
  replace kg2 := GD.has kg2
  replace kg3 := GD.has kg3
  replace kg4 := GD.has kg4
  replace GG := GG.drew.tg GD
  clear GD
  refine sv 71 (vFa) (jH _ _ _ rfl f.ti f.tn ni nn rfl rfl false (hs) _) (mv 72 (vFa) (zf 73 rfl rfl ?_))
  refine nr ?_; intro U h; simp only [z0, z1] at h; subst h
  refine zf 74 rfl rfl (zf 75 rfl rfl (zf 76 rfl rfl (zf 77 rfl rfl (mv 78 (vFa) ?_))))
  refine nr ?_; intro U h; simp only [z0, z1] at h; subst h
  refine wpList_nil (jc (wp_cond_false rfl (wp_skip (jc (wp_seq ?_)))))
  refine jk (A := ?Ax31) 13 [(0, 83), (1, 84), (2, 85), (3, 86), (4, 87), (5, 88), (6, 89), (7, 90), (8, 91), (9, 92), (10, 93), (11, 94), (12, 95)] [.val (pK r 0), .val (pK r 0), .val (pK r 18), .val (.agg (c29 ni nn)), .val (pK r 0), .val (pK r 0), .val (pK r 20), .val (.agg (c29 f.fi f.fn)), .val (pK r 0), .val (pK r 0), .val (pK r 38), .val (pK r 40), .val (iK 0)] follows (by kernel_rfl) rfl ?hAx31 (ja ?o0x31 (ja ?o1x31 (ja ?o2x31 (ja ?o3x31 (ja ?o4x31 (ja ?o5x31 (ja ?o6x31 (ja ?o7x31 (ja ?o8x31 (ja ?o9x31 (ja ?o10x31 (ja ?o11x31 (ja ?o12x31 jw))))))))))))) ?restx31
  case hAx31 =>
    intro ptrs
    simp only [full, foldSlots, filledE, postE, List.foldl_cons, List.foldl_nil, List.getD_cons_zero, List.getD_cons_succ, jr, List.set_cons_zero, List.set_cons_succ]
    exact rfl
  case o0x31 => exact fun _ _ _ _ => jg (v := pK r 0) _ rfl rfl rfl
  case o1x31 => exact fun _ _ hw _ => jb (v := pK r 0) rfl (jj _ rfl _ rfl)
  case o2x31 => exact fun _ _ hw _ => jb (v := pK r 18) rfl (jd 34 _ 3 rfl _ _ rfl _)
  case o3x31 => exact fun _ _ hw _ => jb (v := .agg (c29 ni nn)) rfl (jf 29 _ rfl r 18 2 rfl 34 _ (hw.has kr) _ Try.underlying29 rfl si29 _)
  case o4x31 => exact fun _ _ _ _ => jg (v := pK r 0) _ rfl rfl rfl
  case o5x31 => exact fun _ _ hw _ => jb (v := pK r 0) rfl (jj _ rfl _ rfl)
  case o6x31 => exact fun _ _ hw _ => jb (v := pK r 20) rfl (jd 34 _ 4 rfl _ _ rfl _)
  case o7x31 => exact fun _ _ hw _ => jb (v := .agg (c29 f.fi f.fn)) rfl (jf 29 _ rfl r 20 2 rfl 34 _ (hw.has kr) _ Try.underlying29 rfl si29 _)
  case o8x31 => exact fun _ _ _ _ => jg (v := pK r 0) _ rfl rfl rfl
  case o9x31 => exact fun _ _ hw _ => jb (v := pK r 0) rfl (jj _ rfl _ rfl)
  case o10x31 => exact fun _ _ hw _ => jb (v := pK r 38) rfl (jd 34 _ 6 rfl _ _ rfl _)
  case o11x31 => exact fun _ _ hw _ => jb (v := pK r 40) rfl (jd 32 _ 2 rfl _ _ rfl _)
  case o12x31 => exact fun _ _ hw _ => jb (v := iK 0) rfl (jh 2 _ rfl r 40 rfl 34 _ (hw.has kr) (na2 _) _ rfl)
  intro ptrs w16 GD hxE
  simp only [List.drop_succ_cons, List.drop_zero]
  replace kr := GD.has kr
  replace kg1 := GD.has kg1
  replace kg2 := GD.has kg2
  replace kg3 := GD.has kg3
  replace kg4 := GD.has kg4
  replace GG := GG.drew.tg GD
  clear GD
  refine sv 96 (.agg (c46 3 zF 0 false zF zF 0 ni nn f.fi f.fn Sl.nil Sl.nil zF 0 zF Sl.nil 0 0 Sl.nil)) (jy 46 _ rfl [(0, iK 3), (6, .agg (c29 ni nn)), (7, .agg (c29 f.fi f.fn)), (5, iK 0)] rfl _ (by kernel_rfl)) ?_
  refine zk 97 rfl rfl 50 1 _ rfl [(0, .agg (c46 3 zF 0 false zF zF 0 ni nn f.fi f.fn Sl.nil Sl.nil zF 0 zF Sl.nil 0 0 Sl.nil))] rfl (c46 3 zF 0 false zF zF 0 ni nn f.fi f.fn Sl.nil Sl.nil zF 0 zF Sl.nil 0 0 Sl.nil) 46 (by kernel_rfl) ?_
  intro w17 g5 G eg5 kg5
  have bg5 := jl GG eg5
  have drg5 := je kr eg5
  have dg1g5 := je kg1 eg5
  have dg2g5 := je kg2 eg5
  have dg3g5 := je kg3 eg5
  have dg4g5 := je kg4 eg5
  replace kr := G.has kr
  replace kg1 := G.has kg1
  replace kg2 := G.has kg2
  replace kg3 := G.has kg3
  replace kg4 := G.has kg4
  replace GG := GG.tg G
  clear G eg5
  refine sv 98 (pK g4 4) (jd 62 _ 4 rfl _ _ rfl _) ?_
  refine jn rfl rfl 50 _ _ rfl g4 4 rfl (.slice (some ⟨g5, 0, none⟩) 1 1) rfl 62 _ kg4 #[.slice (some ⟨g5, 0, none⟩) 1 1] rfl (by kernel_rfl) (nlB rfl) (by kernel_rfl) (c62 true false Sl.nil false ⟨some ⟨g5, 0, none⟩, 1, 1⟩) (by kernel_rfl) ?_
  intro w19 St
  replace kr := St.has (by omega) kr
  replace kg1 := St.has (by omega) kg1
  replace kg2 := St.has (by omega) kg2
  replace kg3 := St.has (by omega) kg3
  replace kg5 := St.has (by omega) kg5
  replace GG := GG.st St (.inl bg4)
  replace kg4 := St.new
  clear St
  refine wpList_nil (jc (wp_seq ?_))
  refine jk (A := ?Ax32) 6 [(0, 99), (1, 100), (2, 101), (3, 102), (4, 103), (5, 104)] [.val (pK g1 54), .val (.agg (c29 f.ti f.tn)), .val (pK r 0), .val (pK r 0), .val (pK r 18), .val (.agg (c29 ni nn))] follows (by kernel_rfl) rfl ?hAx32 (ja ?o0x32 (ja ?o1x32 (ja ?o2x32 (ja ?o3x32 (ja ?o4x32 (ja ?o5x32 jw)))))) ?restx32
  case hAx32 =>
    intro ptrs
    simp only [full, foldSlots, filledE, postE, List.foldl_cons, List.foldl_nil, List.getD_cons_zero, List.getD_cons_succ, jr, List.set_cons_zero, List.set_cons_succ]
    exact rfl
  case o0x32 => exact fun _ _ hw _ => jb (v := pK g1 54) rfl (jd 46 _ 7 rfl _ _ rfl _)
  case o1x32 => exact fun _ _ hw _ => jb (v := .agg (c29 f.ti f.tn)) rfl (jf 29 _ rfl g1 54 2 rfl 46 _ (hw.has kg1) _ Try.underlying29 rfl si29 _)
  case o2x32 => exact fun _ _ _ _ => jg (v := pK r 0) _ rfl rfl rfl
  case o3x32 => exact fun _ _ hw _ => jb (v := pK r 0) rfl (jj _ rfl _ rfl)
  case o4x32 => exact fun _ _ hw _ => jb (v := pK r 18) rfl (jd 34 _ 3 rfl _ _ rfl _)
  case o5x32 => exact fun _ _ hw _ => jb (v := .agg (c29 ni nn)) rfl (jf 29 _ rfl r 18 2 rfl 34 _ (hw.has kr) _ Try.underlying29 rfl si29 _)
  intro ptrs w20 GD hxE
  simp only [List.drop_succ_cons, List.drop_zero]
  replace kr := GD.has kr
  replace kg1 := GD.has kg1
  replace kg2 := GD.has kg2
  replace kg3 := GD.has kg3
  replace kg4 := GD.has kg4
  replace kg5 := GD.has kg5
  replace GG := GG.drew.tg GD
  clear GD
  refine sv 105 (vTr) (zq _ _ _ rfl f.ti f.tn ni nn rfl rfl true (by rw [hs]; rfl) _) (mv 106 (vTr) ?_)
  refine nr ?_; intro U h; simp only [z0, z1] at h; subst h
  refine zf 107 rfl rfl (zf 108 rfl rfl (mv 109 (vTr) (wpList_nil (jc (wp_cond_true rfl (wp_region_lit (mv 110 (pK r 0) ?_)))))))
  refine jz 111 rfl rfl _ 36 Try.call36 rfl rfl _ rfl [pK r 0] rfl (zE _ r B id true false ni nn f.fi f.fn f.a none 0 [] 0 0 (WX.new kr H.base (by decide))) ?_
  intro w21 G
  replace kr := G.has kr
  replace kg1 := G.has kg1
  replace kg2 := G.has kg2
  replace kg3 := G.has kg3
  replace kg4 := G.has kg4
  replace kg5 := G.has kg5
  replace GG := GG.tg G
  clear G
  refine nr ?_; intro U h; simp only [z0, z1] at h; subst h
  refine zk 112 rfl rfl 50 1 _ rfl [(0, .agg (c46 1 zF 0 false id zF 0 ni nn f.fi f.fn Sl.nil Sl.nil zF 0 zF Sl.nil 0 0 Sl.nil))] rfl (c46 1 zF 0 false id zF 0 ni nn f.fi f.fn Sl.nil Sl.nil zF 0 zF Sl.nil 0 0 Sl.nil) 46 (by kernel_rfl) ?_
  intro w22 g6 G eg6 kg6
  have bg6 := jl GG eg6
  have drg6 := je kr eg6
  have dg1g6 := je kg1 eg6
  have dg2g6 := je kg2 eg6
  have dg3g6 := je kg3 eg6
  have dg4g6 := je kg4 eg6
  have dg5g6 := je kg5 eg6
  replace kr := G.has kr
  replace kg1 := G.has kg1
  replace kg2 := G.has kg2
  replace kg3 := G.has kg3
  replace kg4 := G.has kg4
  replace kg5 := G.has kg5
  replace GG := GG.tg G
  clear G eg6
  refine sv 113 (pK g4 4) (jd 62 _ 4 rfl _ _ rfl _) ?_
  refine jn rfl rfl 50 _ _ rfl g4 4 rfl (.slice (some ⟨g6, 0, none⟩) 1 1) rfl 62 _ kg4 #[.slice (some ⟨g6, 0, none⟩) 1 1] rfl (by kernel_rfl) (nlB rfl) (by kernel_rfl) (c62 true false Sl.nil false ⟨some ⟨g6, 0, none⟩, 1, 1⟩) (by kernel_rfl) ?_
  intro w24 St
  replace kr := St.has (by omega) kr
  replace kg1 := St.has (by omega) kg1
  replace kg2 := St.has (by omega) kg2
  replace kg3 := St.has (by omega) kg3
  replace kg5 := St.has (by omega) kg5
  replace kg6 := St.has (by omega) kg6
  replace GG := GG.st St (.inl bg4)
  replace kg4 := St.new
  clear St
  refine wpList_nil (zh (jc (wp_seq (wp_region_lit (sv 203 (.agg (c62 true false Sl.nil false ⟨some ⟨g6, 0, none⟩, 1, 1⟩)) (jf 62 _ rfl g4 0 5 rfl 62 _ kg4 _ Try.underlying62 rfl si62 _) ?_)))))
  refine jn rfl rfl 62 _ _ rfl g3 0 rfl (.agg (c62 true false Sl.nil false ⟨some ⟨g6, 0, none⟩, 1, 1⟩)) rfl 62 _ kg3 (c62 true false Sl.nil false ⟨some ⟨g6, 0, none⟩, 1, 1⟩) rfl (by kernel_rfl) (nlB rfl) (by kernel_rfl) (c62 true false Sl.nil false ⟨some ⟨g6, 0, none⟩, 1, 1⟩) (by kernel_rfl) ?_
  intro w26 St
  replace kr := St.has (by omega) kr
  replace kg1 := St.has (by omega) kg1
  replace kg2 := St.has (by omega) kg2
  replace kg4 := St.has (by omega) kg4
  replace kg5 := St.has (by omega) kg5
  replace kg6 := St.has (by omega) kg6
  replace GG := GG.st St (.inl bg3)
  replace kg3 := St.new
  clear St
  refine wpList_nil (jc (wp_ret ?_))
  refine bodyPost_ret (results_cell_row Try.results22 _ _ g3 62 _ (0, 0) _ rfl kg3 Try.underlying62 rfl (by kernel_rfl)) rfl ?_
  exact ⟨_, (r :: blk none), [], rfl, TV.one (f := pfr ⟨1, id, ni, nn, f.fi, f.fn, 0, []⟩ Sl.nil Sl.nil Sl.nil Sl.nil) kg6 (zQ _ _ _ _ _ _ _ _), ⟨B, none, 0, [], WX.new kr H.base (by decide), Nat.zero_le _, rfl, rfl, rfl⟩, GG.p1, Fresh.rnew, Fresh.nil0 _ _⟩
theorem yQ (w : World) (r B : Nat) (id : Nat → Nat) (mi mn pi pn : Int) (oth : Nat → Nat) (so : Option Addr) (sc : Nat) (u : List RV) (k c : Nat) (H : WX 34 (c34 id true true mi mn pi pn oth ⟨so, u.length, sc⟩ ((k : Nat) : Int) ((c : Nat) : Int)) w r B so sc u) (_hk : k ≤ u.length) (f : Fr) (ni nn : Int) (hf1 : f.kind = 1) (hl : lessN f.fi f.fn pi pn = false) (hz : (decide (f.fi = 0) && decide (f.fn = 0)) = false) (hg : lessN pi pn f.fi f.fn = true) (hs : (decide (f.ti = ni) && decide (f.tn = nn)) = true) : Calls Try.prog 22 #[pK r 0, .agg (frA f), .agg (c29 ni nn)] w (HearD w r id (r :: blk so) (txb u) (⟨true, true, ni, nn, f.fi, f.fn, f.a, 0, [], 0⟩, ⟨true, true, [], false, [⟨1, id, ni, nn, f.fi, f.fn, 0, []⟩]⟩)) := by
  refine jp Try.func22 rfl Try.ntmps22 [pK r 0, .agg (frA f), .agg (c29 ni nn)] ?_
  intro U h; simp only [List.length_cons, List.length_nil, List.cons_append, List.nil_append, Nat.reduceAdd, Nat.reduceSub, List.reduceReplicate] at h; subst h
  have GG := GroS.refl [r] w
  have kr := H.box
  have hpl := H.lt
  have hBl := H.bl
  refine wp_seq (wp_region_lit ?_)
  refine jB 4 rfl rfl 46 _ rfl _ rfl (frA f) rfl ?_
  intro w1 g1 G eg1 kg1
  have bg1 := jl GG eg1
  have drg1 := je kr eg1
  replace kr := G.has kr
  replace GG := GG.tg G
  clear G eg1
  refine jB 5 rfl rfl 29 _ rfl _ rfl (c29 ni nn) rfl ?_
  intro w2 g2 G eg2 kg2
  have bg2 := jl GG eg2
  have drg2 := je kr eg2
  have dg1g2 := je kg1 eg2
  replace kr := G.has kr
  replace kg1 := G.has kg1
  replace GG := GG.tg G
  clear G eg2
  refine jq 6 rfl rfl 62 rfl _ zv62 _ rfl ?_
  intro w3 g3 G eg3 kg3
  have bg3 := jl GG eg3
  have drg3 := je kr eg3
  have dg1g3 := je kg1 eg3
  have dg2g3 := je kg2 eg3
  replace kr := G.has kr
  replace kg1 := G.has kg1
  replace kg2 := G.has kg2
  replace GG := GG.tg G
  clear G eg3
  refine wpList_nil (jc (wp_seq (wp_region_lit ?_)))
  refine jq 7 rfl rfl 62 rfl _ zv62 _ rfl ?_
  intro w4 g4 G eg4 kg4
  have bg4 := jl GG eg4
  have drg4 := je kr eg4
  have dg1g4 := je kg1 eg4
  have dg2g4 := je kg2 eg4
  have dg3g4 := je kg3 eg4
  replace kr := G.has kr
  replace kg1 := G.has kg1
  replace kg2 := G.has kg2
  replace kg3 := G.has kg3
  replace GG := GG.tg G
  clear G eg4
  refine wpList_nil (jc (wp_seq (wp_seq (wp_region_lit (mv 8 (pK r 0) ?_)))))
  refine nr ?_; intro U h; simp only [z0, z1] at h; subst h
  refine sv 9 (pK r 0) (jj _ rfl _ rfl) (sv 10 (pK r 16) (jd 34 _ 1 rfl _ _ rfl _) (sv 11 (vTr) (jh 4 _ rfl r 16 rfl 34 _ kr (na4 _) _ rfl) (sv 12 (vFa) (jE _ _ rfl true rfl) (wpList_nil (jc (wp_cond_false rfl (wp_skip (jc (wp_seq (wp_seq (wp_region_lit (sv 14 (pK g1 0) (jd 46 _ 0 rfl _ _ rfl _) ?_))))))))))))
  refine nr ?_; intro U h; simp only [z0, z1] at h; subst h
  refine sv 15 (iK f.kind) (jh 3 _ rfl g1 0 rfl 46 _ kg1 (na3 _) _ rfl) (wpList_nil (jc (wp_block (wp_seq (wp_region_lit (sv 17 (vTr) (jo 3 .i64 _ _ _ rfl Try.underlying3 f.kind 1 rfl rfl true (decide_eq_true hf1) _) (mv 16 (vTr) (wpList_nil (jc (wp_cond_true rfl (wp_seq (wp_seq ?_))))))))))))
  refine jk (A := ?Ax33) 11 [(0, 18), (1, 19), (2, 20), (3, 21), (4, 22), (5, 23), (6, 24), (7, 25), (8, 26), (9, 27), (10, 28)] [.val (pK g1 52), .val (.agg (c29 f.fi f.fn)), .val (pK r 0), .val (pK r 0), .val (pK r 20), .val (.agg (c29 pi pn)), .val (vFa), .val (vFa), .val (pK g1 52), .val (.agg (c29 f.fi f.fn)), .val (.agg (c29 0 0))] follows (by kernel_rfl) rfl ?hAx33 (ja ?o0x33 (ja ?o1x33 (ja ?o2x33 (ja ?o3x33 (ja ?o4x33 (ja ?o5x33 (ja ?o6x33 (ja ?o7x33 (ja ?o8x33 (ja ?o9x33 (ja ?o10x33 jw))))))))))) ?restx33
  case hAx33 =>
    intro ptrs
    simp only [full, foldSlots, filledE, postE, List.foldl_cons, List.foldl_nil, List.getD_cons_zero, List.getD_cons_succ, jr, List.set_cons_zero, List.set_cons_succ]
    exact rfl
  case o0x33 => exact fun _ _ hw _ => jb (v := pK g1 52) rfl (jd 46 _ 6 rfl _ _ rfl _)
  case o1x33 => exact fun _ _ hw _ => jb (v := .agg (c29 f.fi f.fn)) rfl (jf 29 _ rfl g1 52 2 rfl 46 _ (hw.has kg1) _ Try.underlying29 rfl si29 _)
  case o2x33 => exact fun _ _ _ _ => jg (v := pK r 0) _ rfl rfl rfl
  case o3x33 => exact fun _ _ hw _ => jb (v := pK r 0) rfl (jj _ rfl _ rfl)
  case o4x33 => exact fun _ _ hw _ => jb (v := pK r 20) rfl (jd 34 _ 4 rfl _ _ rfl _)
  case o5x33 => exact fun _ _ hw _ => jb (v := .agg (c29 pi pn)) rfl (jf 29 _ rfl r 20 2 rfl 34 _ (hw.has kr) _ Try.underlying29 rfl si29 _)
  case o6x33 => exact fun _ _ hw _ => jT (.val (vFa)) rfl _ 46 Try.call46 rfl rfl _ rfl [.agg (c29 f.fi f.fn), .agg (c29 pi pn)] rfl (((show lessN f.fi f.fn pi pn = false from hl) ▸ zj _ f.fi f.fn pi pn).mono fun e w' ⟨he, hg⟩ => ⟨_, he, hg, rfl⟩)
  case o7x33 => exact fun _ _ _ _ => jg (v := vFa) _ rfl rfl rfl
  case o8x33 => exact fun _ _ hw _ => jb (v := pK g1 52) rfl (jd 46 _ 6 rfl _ _ rfl _)
  case o9x33 => exact fun _ _ hw _ => jb (v := .agg (c29 f.fi f.fn)) rfl (jf 29 _ rfl g1 52 2 rfl 46 _ (hw.has kg1) _ Try.underlying29 rfl si29 _)
  case o10x33 => exact fun _ _ hw _ => jb (v := .agg (c29 0 0)) rfl (jy 29 _ rfl [] rfl _ (by kernel_rfl))
  intro ptrs w5 GD hxE
  simp only [List.drop_succ_cons, List.drop_zero]
  replace kr := GD.has kr
  replace kg1 := GD.has kg1
  replace kg2 := GD.has kg2
  replace kg3 := GD.has kg3
  replace kg4 := GD.has kg4
  replace GG := GG.drew.tg GD
  clear GD
  refine jI 29 rfl rfl (vFa) (jH _ _ _ rfl f.fi f.fn 0 0 rfl rfl false (hz) _) (mv 30 (vFa) ?_)
  refine nr ?_; intro U h; simp only [z0, z1] at h; subst h
  refine wpList_nil (jc (wp_cond_false rfl (wp_skip (jc (wp_seq (wp_seq ?_))))))
  refine jk (A := ?Ax34) 6 [(0, 32), (1, 33), (2, 34), (3, 35), (4, 36), (5, 37)] [.val (pK r 0), .val (pK r 0), .val (pK r 20), .val (.agg (c29 pi pn)), .val (pK g1 52), .val (.agg (c29 f.fi f.fn))] follows (by kernel_rfl) rfl ?hAx34 (ja ?o0x34 (ja ?o1x34 (ja ?o2x34 (ja ?o3x34 (ja ?o4x34 (ja ?o5x34 jw)))))) ?restx34
  case hAx34 =>
    intro ptrs
    simp only [full, foldSlots, filledE, postE, List.foldl_cons, List.foldl_nil, List.getD_cons_zero, List.getD_cons_succ, jr, List.set_cons_zero, List.set_cons_succ]
    exact rfl
  case o0x34 => exact fun _ _ _ _ => jg (v := pK r 0) _ rfl rfl rfl
  case o1x34 => exact fun _ _ hw _ => jb (v := pK r 0) rfl (jj _ rfl _ rfl)
  case o2x34 => exact fun _ _ hw _ => jb (v := pK r 20) rfl (jd 34 _ 4 rfl _ _ rfl _)
  case o3x34 => exact fun _ _ hw _ => jb (v := .agg (c29 pi pn)) rfl (jf 29 _ rfl r 20 2 rfl 34 _ (hw.has kr) _ Try.underlying29 rfl si29 _)
  case o4x34 => exact fun _ _ hw _ => jb (v := pK g1 52) rfl (jd 46 _ 6 rfl _ _ rfl _)
  case o5x34 => exact fun _ _ hw _ => jb (v := .agg (c29 f.fi f.fn)) rfl (jf 29 _ rfl g1 52 2 rfl 46 _ (hw.has kg1) _ Try.underlying29 rfl si29 _)
  intro ptrs w6 GD hxE
  simp only [List.drop_succ_cons, List.drop_zero]
  replace kr := GD.has kr
  replace kg1 := GD.has kg1
  replace kg2 := GD.has kg2
  replace kg3 := GD.has kg3
  replace kg4 := GD.has kg4
  replace GG := GG.drew.tg GD
  clear GD
  refine jz 38 rfl rfl _ 46 Try.call46 rfl rfl _ rfl [.agg (c29 pi pn), .agg (c29 f.fi f.fn)] rfl ((show lessN pi pn f.fi f.fn = true from hg) ▸ zj _ pi pn f.fi f.fn) ?_
  intro w7 G
  replace kr := G.has kr
  replace kg1 := G.has kg1
  replace kg2 := G.has kg2
  replace kg3 := G.has kg3
  replace kg4 := G.has kg4
  replace GG := GG.tg G
  clear G
  refine wpList_nil (jc (wp_cond_true rfl (wp_seq (wp_seq (wp_region_lit (mv 39 (pK r 0) (sv 40 (pK r 0) (jj _ rfl _ rfl) (sv 41 (pK r 17) (jd 34 _ 2 rfl _ _ rfl _) (sv 42 (vTr) (jh 4 _ rfl r 17 rfl 34 _ kr (na4 _) _ rfl) ?_)))))))))
  refine nr ?_; intro U h; simp only [z0, z1] at h; subst h
  refine wpList_nil (jc (wp_cond_true rfl (wp_seq (wp_region_lit (sv 43 (pK g4 0) (jd 62 _ 0 rfl _ _ rfl _) ?_)))))
  refine jn rfl rfl 4 _ _ rfl g4 0 rfl (vTr) rfl 62 _ kg4 #[vTr] rfl (by kernel_rfl) (nlB rfl) (by kernel_rfl) (c62 true false Sl.nil false Sl.nil) (by kernel_rfl) ?_
  intro w9 St
  replace kr := St.has (by omega) kr
  replace kg1 := St.has (by omega) kg1
  replace kg2 := St.has (by omega) kg2
  replace kg3 := St.has (by omega) kg3
  replace GG := GG.st St (.inl bg4)
  replace kg4 := St.new
  clear St
  refine wpList_nil (jc (wp_region_lit (mv 44 (pK r 0) (sv 45 (.agg (c29 ni nn)) (jf 29 _ rfl g2 0 2 rfl 29 _ kg2 _ Try.underlying29 rfl si29 _) (sv 46 (pK r 0) (jj _ rfl _ rfl) (sv 47 (pK r 18) (jd 34 _ 3 rfl _ _ rfl _) ?_))))))
  refine nr ?_; intro U h; simp only [z0, z1] at h; subst h
  refine jn rfl rfl 29 _ _ rfl r 18 rfl (.agg (c29 ni nn)) rfl 34 _ kr (c29 ni nn) rfl (by kernel_rfl) (nlB rfl) (by kernel_rfl) (c34 id true true ni nn pi pn oth ⟨so, u.length, sc⟩ ((k : Nat) : Int) ((c : Nat) : Int)) (by kernel_rfl) ?_
  intro w11 St
  replace kg1 := St.has (by omega) kg1
  replace kg2 := St.has (by omega) kg2
  replace kg3 := St.has (by omega) kg3
  replace kg4 := St.has (by omega) kg4
  replace GG := GG.st St (.inr (by simp))
  replace kr := St.new
  clear St
  refine wpList_nil (jc ?_)
  refine jR (A := ?Ap4) (fun L x => GroS [r] w x ∧ x.heap[r]? = some (.cells (cond (L 17) (c34 id true false ni nn f.fi f.fn f.a ⟨so, u.length, sc⟩ ((k : Nat) : Int) ((c : Nat) : Int)) (cond (L 14) (c34 id true false ni nn f.fi f.fn oth ⟨so, u.length, sc⟩ ((k : Nat) : Int) ((c : Nat) : Int)) (cond (L 11) (c34 id true false ni nn pi pn oth ⟨so, u.length, sc⟩ ((k : Nat) : Int) ((c : Nat) : Int)) (c34 id true true ni nn pi pn oth ⟨so, u.length, sc⟩ ((k : Nat) : Int) ((c : Nat) : Int))))) 34 (0, 0)) ∧ x.heap[g1]? = some (.cells (frA f) 46 (0, 0)) ∧ x.heap[g2]? = some (.cells (c29 ni nn) 29 (0, 0)) ∧ x.heap[g3]? = some (.cells (c62 false false Sl.nil false Sl.nil) 62 (0, 0)) ∧ x.heap[g4]? = some (.cells (c62 true false Sl.nil false Sl.nil) 62 (0, 0))) 18 [(0, 48), (1, 49), (2, 50), (3, 51), (4, 52), (5, 53), (6, 54), (7, 55), (8, 56), (9, 57), (10, 58), (12, 59), (13, 60), (15, 61), (16, 62)] [.val (pK r 0), .val (pK r 0), .val (pK r 0), .val (pK r 0), .val (pK g1 52), .val (.agg (c29 f.fi f.fn)), .val (pK g1 19), .val (.agg (c23 f.a)), .val (.agg (c32 Sl.nil 0 0)), .val (pK r 0), .val (pK r 17), .val undef, .val (pK r 0), .val (pK r 20), .val undef, .val (pK r 0), .val (pK r 22), .val undef] [] [] follows (by kernel_rfl) rfl (by kernel_rfl) (by decide) ⟨GG.drew, (Gro.refl _).drew.has kr, (Gro.refl _).drew.has kg1, (Gro.refl _).drew.has kg2, (Gro.refl _).drew.has kg3, (Gro.refl _).drew.has kg4⟩ ?hAp4 (js (fun _ _ _ h _ G => ⟨h.1.tg G, G.has h.2.1, G.has h.2.2.1, G.has h.2.2.2.1, G.has h.2.2.2.2.1, G.has h.2.2.2.2.2⟩) ?o0p4 (js (fun _ _ _ h _ G => ⟨h.1.tg G, G.has h.2.1, G.has h.2.2.1, G.has h.2.2.2.1, G.has h.2.2.2.2.1, G.has h.2.2.2.2.2⟩) ?o1p4 (js (fun _ _ _ h _ G => ⟨h.1.tg G, G.has h.2.1, G.has h.2.2.1, G.has h.2.2.2.1, G.has h.2.2.2.2.1, G.has h.2.2.2.2.2⟩) ?o2p4 (js (fun _ _ _ h _ G => ⟨h.1.tg G, G.has h.2.1, G.has h.2.2.1, G.has h.2.2.2.1, G.has h.2.2.2.2.1, G.has h.2.2.2.2.2⟩) ?o3p4 (js (fun _ _ _ h _ G => ⟨h.1.tg G, G.has h.2.1, G.has h.2.2.1, G.has h.2.2.2.1, G.has h.2.2.2.2.1, G.has h.2.2.2.2.2⟩) ?o4p4 (js (fun _ _ _ h _ G => ⟨h.1.tg G, G.has h.2.1, G.has h.2.2.1, G.has h.2.2.2.1, G.has h.2.2.2.2.1, G.has h.2.2.2.2.2⟩) ?o5p4 (js (fun _ _ _ h _ G => ⟨h.1.tg G, G.has h.2.1, G.has h.2.2.1, G.has h.2.2.2.1, G.has h.2.2.2.2.1, G.has h.2.2.2.2.2⟩) ?o6p4 (js (fun _ _ _ h _ G => ⟨h.1.tg G, G.has h.2.1, G.has h.2.2.1, G.has h.2.2.2.1, G.has h.2.2.2.2.1, G.has h.2.2.2.2.2⟩) ?o7p4 (js (fun _ _ _ h _ G => ⟨h.1.tg G, G.has h.2.1, G.has h.2.2.1, G.has h.2.2.2.1, G.has h.2.2.2.2.1, G.has h.2.2.2.2.2⟩) ?o8p4 (js (fun _ _ _ h _ G => ⟨h.1.tg G, G.has h.2.1, G.has h.2.2.1, G.has h.2.2.2.1, G.has h.2.2.2.2.1, G.has h.2.2.2.2.2⟩) ?o9p4 (js (fun _ _ _ h _ G => ⟨h.1.tg G, G.has h.2.1, G.has h.2.2.1, G.has h.2.2.2.1, G.has h.2.2.2.2.1, G.has h.2.2.2.2.2⟩) ?o10p4 (jW ?o11p4 (js (fun _ _ _ h _ G => ⟨h.1.tg G, G.has h.2.1, G.has h.2.2.1, G.has h.2.2.2.1, G.has h.2.2.2.2.1, G.has h.2.2.2.2.2⟩) ?o12p4 (js (fun _ _ _ h _ G => ⟨h.1.tg G, G.has h.2.1, G.has h.2.2.1, G.has h.2.2.2.1, G.has h.2.2.2.2.1, G.has h.2.2.2.2.2⟩) ?o13p4 (jW ?o14p4 (js (fun _ _ _ h _ G => ⟨h.1.tg G, G.has h.2.1, G.has h.2.2.1, G.has h.2.2.2.1, G.has h.2.2.2.2.1, G.has h.2.2.2.2.2⟩) ?o15p4 (js (fun _ _ _ h _ G => ⟨h.1.tg G, G.has h.2.1, G.has h.2.2.1, G.has h.2.2.2.1, G.has h.2.2.2.2.1, G.has h.2.2.2.2.2⟩) ?o16p4 (jW ?o17p4 zp)))))))))))))))))) ?restp4
  case hAp4 =>
    intro ptrs
    simp only [full, foldSlots, filledE, postE, List.foldl_cons, List.foldl_nil, List.getD_cons_zero, List.getD_cons_succ, jr,  List.set_cons_zero, List.set_cons_succ]
    exact rfl
  case o0p4 => exact fun _ _ _ _ _ _ _ _ => jg (v := pK r 0) _ rfl rfl rfl
  case o1p4 => exact fun _ _ _ _ _ _ _ _ => jg (v := pK r 0) _ rfl rfl rfl
  case o2p4 => exact fun _ _ _ _ _ _ _ _ => jg (v := pK r 0) _ rfl rfl rfl
  case o3p4 => exact fun _ _ _ _ _ _ _ _ => jg (v := pK r 0) _ rfl rfl rfl
  case o4p4 => exact fun _ _ x hx _ _ _ _ => jb (v := pK g1 52) rfl (jd 46 _ 6 rfl _ _ rfl _)
  case o5p4 => exact fun _ _ x hx _ _ _ _ => jb (v := .agg (c29 f.fi f.fn)) rfl (jf 29 _ rfl g1 52 2 rfl 46 _ hx.2.2.1 _ Try.underlying29 rfl si29 _)
  case o6p4 => exact fun _ _ x hx _ _ _ _ => jb (v := pK g1 19) rfl (jd 46 _ 3 rfl _ _ rfl _)
  case o7p4 => exact fun _ _ x hx _ _ _ _ => jb (v := .agg (c23 f.a)) rfl (jf 23 _ rfl g1 19 16 rfl 46 _ hx.2.2.1 _ Try.underlying23 rfl si23 _)
  case o8p4 => exact fun _ _ x hx _ _ _ _ => jb (v := .agg (c32 Sl.nil 0 0)) rfl (jy 32 _ rfl [] rfl _ (by kernel_rfl))
  case o9p4 => exact fun _ _ x hx _ _ _ _ => jb (v := pK r 0) rfl (jj _ rfl _ rfl)
  case o10p4 => exact fun _ _ x hx _ _ _ _ => jb (v := pK r 17) rfl (jd 34 _ 2 rfl _ _ rfl _)
  case o11p4 =>
    intro L ptrs x hx hL hed hno _
    have hk := hx.2.1
    have h14 : L 14 = false := hno 14 (by kernel_rfl)
    have h17 : L 17 = false := hno 17 (by kernel_rfl)
    rw [h17, h14, hL] at hk
    replace hk : x.heap[r]? = some (.cells (c34 id true true ni nn pi pn oth ⟨so, u.length, sc⟩ ((k : Nat) : Int) ((c : Nat) : Int)) 34 (0, 0)) := hk
    refine jL _ rfl 4 _ _ rfl r 17 rfl (vFa) rfl 34 _ hk #[vFa] rfl (by kernel_rfl) (nlB rfl) (by kernel_rfl) (c34 id true false ni nn pi pn oth ⟨so, u.length, sc⟩ ((k : Nat) : Int) ((c : Nat) : Int)) (by kernel_rfl) ?_
    intro y St
    exact ⟨⟨⟨hx.1.st St (.inr (by simp)), (by rw [show upd L 11 17 = false from h17, show upd L 11 14 = false from h14]; exact St.new), St.has (by omega) hx.2.2.1, St.has (by omega) hx.2.2.2.1, St.has (by omega) hx.2.2.2.2.1, St.has (by omega) hx.2.2.2.2.2⟩, StM.vals [0, 1, 2, 3, 4, 5, 6, 7, 8, 9, 10, 12, 13, 14, 15, 16, 17] (by kernel_rfl) ⟨⟨_, rfl⟩, ⟨_, rfl⟩, ⟨_, rfl⟩, ⟨_, rfl⟩, ⟨_, rfl⟩, ⟨_, rfl⟩, ⟨_, rfl⟩, ⟨_, rfl⟩, ⟨_, rfl⟩, ⟨_, rfl⟩, ⟨_, rfl⟩, ⟨_, rfl⟩, ⟨_, rfl⟩, ⟨_, rfl⟩, ⟨_, rfl⟩, ⟨_, rfl⟩, ⟨_, rfl⟩, trivial⟩⟩, rfl⟩
  case o12p4 => exact fun _ _ x hx _ _ _ _ => jb (v := pK r 0) rfl (jj _ rfl _ rfl)
  case o13p4 => exact fun _ _ x hx _ _ _ _ => jb (v := pK r 20) rfl (jd 34 _ 4 rfl _ _ rfl _)
  case o14p4 =>
    intro L ptrs x hx hL hed hno _
    have hk := hx.2.1
    have h11 : L 11 = true := hed 11 (by kernel_rfl)
    have h17 : L 17 = false := hno 17 (by kernel_rfl)
    rw [h17, hL, h11] at hk
    replace hk : x.heap[r]? = some (.cells (c34 id true false ni nn pi pn oth ⟨so, u.length, sc⟩ ((k : Nat) : Int) ((c : Nat) : Int)) 34 (0, 0)) := hk
    refine jL _ rfl 29 _ _ rfl r 20 rfl (.agg (c29 f.fi f.fn)) rfl 34 _ hk (c29 f.fi f.fn) rfl (by kernel_rfl) (nlB rfl) (by kernel_rfl) (c34 id true false ni nn f.fi f.fn oth ⟨so, u.length, sc⟩ ((k : Nat) : Int) ((c : Nat) : Int)) (by kernel_rfl) ?_
    intro y St
    exact ⟨⟨⟨hx.1.st St (.inr (by simp)), (by rw [show upd L 14 17 = false from h17]; exact St.new), St.has (by omega) hx.2.2.1, St.has (by omega) hx.2.2.2.1, St.has (by omega) hx.2.2.2.2.1, St.has (by omega) hx.2.2.2.2.2⟩, StM.vals [0, 1, 2, 3, 4, 5, 6, 7, 8, 9, 10, 11, 12, 13, 15, 16, 17] (by kernel_rfl) ⟨⟨_, rfl⟩, ⟨_, rfl⟩, ⟨_, rfl⟩, ⟨_, rfl⟩, ⟨_, rfl⟩, ⟨_, rfl⟩, ⟨_, rfl⟩, ⟨_, rfl⟩, ⟨_, rfl⟩, ⟨_, rfl⟩, ⟨_, rfl⟩, ⟨_, rfl⟩, ⟨_, rfl⟩, ⟨_, rfl⟩, ⟨_, rfl⟩, ⟨_, rfl⟩, ⟨_, rfl⟩, trivial⟩⟩, rfl⟩
  case o15p4 => exact fun _ _ x hx _ _ _ _ => jb (v := pK r 0) rfl (jj _ rfl _ rfl)
  case o16p4 => exact fun _ _ x hx _ _ _ _ => jb (v := pK r 22) rfl (jd 34 _ 5 rfl _ _ rfl _)
  case o17p4 =>
    intro L ptrs x hx hL hed hno _
    have hk := hx.2.1
    have h11 : L 11 = true := hed 11 (by kernel_rfl)
    have h14 : L 14 = true := hed 14 (by kernel_rfl)
    rw [hL, h14, h11] at hk
    replace hk : x.heap[r]? = some (.cells (c34 id true false ni nn f.fi f.fn oth ⟨so, u.length, sc⟩ ((k : Nat) : Int) ((c : Nat) : Int)) 34 (0, 0)) := hk
    refine jL _ rfl 23 _ _ rfl r 22 rfl (.agg (c23 f.a)) rfl 34 _ hk (c23 f.a) rfl (by kernel_rfl) (nlB rfl) (by kernel_rfl) (c34 id true false ni nn f.fi f.fn f.a ⟨so, u.length, sc⟩ ((k : Nat) : Int) ((c : Nat) : Int)) (by kernel_rfl) ?_
    intro y St
    exact ⟨⟨⟨hx.1.st St (.inr (by simp)), St.new, St.has (by omega) hx.2.2.1, St.has (by omega) hx.2.2.2.1, St.has (by omega) hx.2.2.2.2.1, St.has (by omega) hx.2.2.2.2.2⟩, StM.vals [0, 1, 2, 3, 4, 5, 6, 7, 8, 9, 10, 11, 12, 13, 14, 15, 16] (by kernel_rfl) ⟨⟨_, rfl⟩, ⟨_, rfl⟩, ⟨_, rfl⟩, ⟨_, rfl⟩, ⟨_, rfl⟩, ⟨_, rfl⟩, ⟨_, rfl⟩, ⟨_, rfl⟩, ⟨_, rfl⟩, ⟨_, rfl⟩, ⟨_, rfl⟩, ⟨_, rfl⟩, ⟨_, rfl⟩, ⟨_, rfl⟩, ⟨_, rfl⟩, ⟨_, rfl⟩, ⟨_, rfl⟩, trivial⟩⟩, rfl⟩
  intro ptrs w12 HJ _
  simp only [List.drop_succ_cons, List.drop_zero]
  clear GG kr kg1 kg2 kg3 kg4
  obtain ⟨GG, kr, kg1, kg2, kg3, kg4⟩ := HJ
  replace kr : w12.heap[r]? = some (.cells (c34 id true false ni nn f.fi f.fn f.a ⟨so, u.length, sc⟩ ((k : Nat) : Int) ((c : Nat) : Int)) 34 (0, 0)) := kr
  refine sv 63 (pK r 0) (jj _ rfl _ rfl) (sv 64 (pK r 38) (jd 34 _ 6 rfl _ _ rfl _) ?_)
  refine jn rfl rfl 32 _ _ rfl r 38 rfl (.agg (c32 Sl.nil 0 0)) rfl 34 _ kr (c32 Sl.nil 0 0) rfl (by kernel_rfl) (nlB rfl) (by kernel_rfl) (c34 id true false ni nn f.fi f.fn f.a Sl.nil 0 0) (by kernel_rfl) ?_
  intro w14 St
  replace kg1 := St.has (by omega) kg1
  replace kg2 := St.has (by omega) kg2
  replace kg3 := St.has (by omega) kg3
  replace kg4 := St.has (by omega) kg4
  replace GG := GG.st St (.inr (by simp))
  replace kr := St.new
  clear St
  refine wpList_nil (jc (wp_seq (wp_seq ?_)))
  refine jk (A := ?Ax35) 6 [(0, 65), (1, 66), (2, 67), (3, 68), (4, 69), (5, 70)] [.val (pK g1 54), .val (.agg (c29 f.ti f.tn)), .val (pK r 0), .val (pK r 0), .val (pK r 18), .val (.agg (c29 ni nn))] follows (by kernel_rfl) rfl ?hAx35 (ja ?o0x35 (ja ?o1x35 (ja ?o2x35 (ja ?o3x35 (ja ?o4x35 (ja ?o5x35 jw)))))) ?restx35
  case hAx35 =>
    intro ptrs
    simp only [full, foldSlots, filledE, postE, List.foldl_cons, List.foldl_nil, List.getD_cons_zero, List.getD_cons_succ, jr, List.set_cons_zero, List.set_cons_succ]
    exact rfl
  case o0x35 => exact fun _ _ hw _ => jb (v := pK g1 54) rfl (jd 46 _ 7 rfl _ _ rfl _)
  case o1x35 => exact fun _ _ hw _ => jb (v := .agg (c29 f.ti f.tn)) rfl (jf 29 _ rfl g1 54 2 rfl 46 _ (hw.has kg1) _ Try.underlying29 rfl si29 _)
  case o2x35 => exact fun _ _ _ _ => jg (v := pK r 0) _ rfl rfl rfl
  case o3x35 => exact fun _ _ hw _ => jb (v := pK r 0) rfl (jj _ rfl _ rfl)
  case o4x35 => exact fun _ _ hw _ => jb (v := pK r 18) rfl (jd 34 _ 3 rfl _ _ rfl _)
  case o5x35 => exact fun _ _ hw _ => jb (v := .agg (c29 ni nn)) rfl (jf 29 _ rfl r 18 2 rfl 34 _ (hw.has kr) _ Try.underlying29 rfl si29 _)
  intro ptrs w15 GD hxE
  simp only [List.drop_succ_cons, List.drop_zero]
  replace kr := GD.has kr
  replace kg1 := GD.has kg1
  replace kg2 := GD.has kg2
  replace kg3 := GD.has kg3
  replace kg4 := GD.has kg4
  replace GG := GG.drew.tg GD
  clear GD
  refine sv 71 (vTr) (jH _ _ _ rfl f.ti f.tn ni nn rfl rfl true (hs) _) (mv 72 (vTr) (jI 73 rfl rfl (pK r 0) (rfl) ?_))
  refine nr ?_; intro U h; simp only [z0, z1] at h; subst h
  refine jI 74 rfl rfl (pK r 0) (jj _ rfl _ rfl) (jI 75 rfl rfl (pK r 17) (jd 34 _ 2 rfl _ _ rfl _) (jI 76 rfl rfl (vFa) (jh 4 _ rfl r 17 rfl 34 _ kr (na4 _) _ rfl) (jI 77 rfl rfl (vTr) (jE _ _ rfl false rfl) (mv 78 (vTr) ?_))))
  refine nr ?_; intro U h; simp only [z0, z1] at h; subst h
  refine wpList_nil (jc (wp_cond_true rfl (wp_region_lit (mv 79 (pK r 0) (sv 80 (pK r 0) (jj _ rfl _ rfl) (sv 81 (pK r 17) (jd 34 _ 2 rfl _ _ rfl _) ?_))))))
  refine jn rfl rfl 4 _ _ rfl r 17 rfl (vTr) rfl 34 _ kr #[vTr] rfl (by kernel_rfl) (nlB rfl) (by kernel_rfl) (c34 id true true ni nn f.fi f.fn f.a Sl.nil 0 0) (by kernel_rfl) ?_
  intro w17 St
  replace kg1 := St.has (by omega) kg1
  replace kg2 := St.has (by omega) kg2
  replace kg3 := St.has (by omega) kg3
  replace kg4 := St.has (by omega) kg4
  replace GG := GG.st St (.inr (by simp))
  replace kr := St.new
  clear St
  refine sv 82 (pK g4 1) (jd 62 _ 1 rfl _ _ rfl _) ?_
  refine jn rfl rfl 4 _ _ rfl g4 1 rfl (vTr) rfl 62 _ kg4 #[vTr] rfl (by kernel_rfl) (nlB rfl) (by kernel_rfl) (c62 true true Sl.nil false Sl.nil) (by kernel_rfl) ?_
  intro w19 St
  replace kr := St.has (by omega) kr
  replace kg1 := St.has (by omega) kg1
  replace kg2 := St.has (by omega) kg2
  replace kg3 := St.has (by omega) kg3
  replace GG := GG.st St (.inl bg4)
  replace kg4 := St.new
  clear St
  refine wpList_nil (jc (wp_seq ?_))
  refine jk (A := ?Ax36) 13 [(0, 83), (1, 84), (2, 85), (3, 86), (4, 87), (5, 88), (6, 89), (7, 90), (8, 91), (9, 92), (10, 93), (11, 94), (12, 95)] [.val (pK r 0), .val (pK r 0), .val (pK r 18), .val (.agg (c29 ni nn)), .val (pK r 0), .val (pK r 0), .val (pK r 20), .val (.agg (c29 f.fi f.fn)), .val (pK r 0), .val (pK r 0), .val (pK r 38), .val (pK r 40), .val (iK 0)] follows (by kernel_rfl) rfl ?hAx36 (ja ?o0x36 (ja ?o1x36 (ja ?o2x36 (ja ?o3x36 (ja ?o4x36 (ja ?o5x36 (ja ?o6x36 (ja ?o7x36 (ja ?o8x36 (ja ?o9x36 (ja ?o10x36 (ja ?o11x36 (ja ?o12x36 jw))))))))))))) ?restx36
  case hAx36 =>
    intro ptrs
    simp only [full, foldSlots, filledE, postE, List.foldl_cons, List.foldl_nil, List.getD_cons_zero, List.getD_cons_succ, jr, List.set_cons_zero, List.set_cons_succ]
    exact rfl
  case o0x36 => exact fun _ _ _ _ => jg (v := pK r 0) _ rfl rfl rfl
  case o1x36 => exact fun _ _ hw _ => jb (v := pK r 0) rfl (jj _ rfl _ rfl)
  case o2x36 => exact fun _ _ hw _ => jb (v := pK r 18) rfl (jd 34 _ 3 rfl _ _ rfl _)
  case o3x36 => exact fun _ _ hw _ => jb (v := .agg (c29 ni nn)) rfl (jf 29 _ rfl r 18 2 rfl 34 _ (hw.has kr) _ Try.underlying29 rfl si29 _)
  case o4x36 => exact fun _ _ _ _ => jg (v := pK r 0) _ rfl rfl rfl
  case o5x36 => exact fun _ _ hw _ => jb (v := pK r 0) rfl (jj _ rfl _ rfl)
  case o6x36 => exact fun _ _ hw _ => jb (v := pK r 20) rfl (jd 34 _ 4 rfl _ _ rfl _)
  case o7x36 => exact fun _ _ hw _ => jb (v := .agg (c29 f.fi f.fn)) rfl (jf 29 _ rfl r 20 2 rfl 34 _ (hw.has kr) _ Try.underlying29 rfl si29 _)
  case o8x36 => exact fun _ _ _ _ => jg (v := pK r 0) _ rfl rfl rfl
  case o9x36 => exact fun _ _ hw _ => jb (v := pK r 0) rfl (jj _ rfl _ rfl)
  case o10x36 => exact fun _ _ hw _ => jb (v := pK r 38) rfl (jd 34 _ 6 rfl _ _ rfl _)
  case o11x36 => exact fun _ _ hw _ => jb (v := pK r 40) rfl (jd 32 _ 2 rfl _ _ rfl _)
  case o12x36 => exact fun _ _ hw _ => jb (v := iK 0) rfl (jh 2 _ rfl r 40 rfl 34 _ (hw.has kr) (na2 _) _ rfl)
  intro ptrs w20 GD hxE
  simp only [List.drop_succ_cons, List.drop_zero]
  replace kr := GD.has kr
  replace kg1 := GD.has kg1
  replace kg2 := GD.has kg2
  replace kg3 := GD.has kg3
  replace kg4 := GD.has kg4
  replace GG := GG.drew.tg GD
  clear GD
  refine sv 96 (.agg (c46 3 zF 0 false zF zF 0 ni nn f.fi f.fn Sl.nil Sl.nil zF 0 zF Sl.nil 0 0 Sl.nil)) (jy 46 _ rfl [(0, iK 3), (6, .agg (c29 ni nn)), (7, .agg (c29 f.fi f.fn)), (5, iK 0)] rfl _ (by kernel_rfl)) ?_
  refine nr ?_; intro U h; simp only [z0, z1] at h; subst h
  refine zk 97 rfl rfl 50 1 _ rfl [(0, .agg (c46 3 zF 0 false zF zF 0 ni nn f.fi f.fn Sl.nil Sl.nil zF 0 zF Sl.nil 0 0 Sl.nil))] rfl (c46 3 zF 0 false zF zF 0 ni nn f.fi f.fn Sl.nil Sl.nil zF 0 zF Sl.nil 0 0 Sl.nil) 46 (by kernel_rfl) ?_
  intro w21 g5 G eg5 kg5
  have bg5 := jl GG eg5
  have drg5 := je kr eg5
  have dg1g5 := je kg1 eg5
  have dg2g5 := je kg2 eg5
  have dg3g5 := je kg3 eg5
  have dg4g5 := je kg4 eg5
  replace kr := G.has kr
  replace kg1 := G.has kg1
  replace kg2 := G.has kg2
  replace kg3 := G.has kg3
  replace kg4 := G.has kg4
  replace GG := GG.tg G
  clear G eg5
  refine sv 98 (pK g4 4) (jd 62 _ 4 rfl _ _ rfl _) ?_
  refine jn rfl rfl 50 _ _ rfl g4 4 rfl (.slice (some ⟨g5, 0, none⟩) 1 1) rfl 62 _ kg4 #[.slice (some ⟨g5, 0, none⟩) 1 1] rfl (by kernel_rfl) (nlB rfl) (by kernel_rfl) (c62 true true Sl.nil false ⟨some ⟨g5, 0, none⟩, 1, 1⟩) (by kernel_rfl) ?_
  intro w23 St
  replace kr := St.has (by omega) kr
  replace kg1 := St.has (by omega) kg1
  replace kg2 := St.has (by omega) kg2
  replace kg3 := St.has (by omega) kg3
  replace kg5 := St.has (by omega) kg5
  replace GG := GG.st St (.inl bg4)
  replace kg4 := St.new
  clear St
  refine wpList_nil (jc (wp_seq ?_))
  refine jk (A := ?Ax37) 6 [(0, 99), (1, 100), (2, 101), (3, 102), (4, 103), (5, 104)] [.val (pK g1 54), .val (.agg (c29 f.ti f.tn)), .val (pK r 0), .val (pK r 0), .val (pK r 18), .val (.agg (c29 ni nn))] follows (by kernel_rfl) rfl ?hAx37 (ja ?o0x37 (ja ?o1x37 (ja ?o2x37 (ja ?o3x37 (ja ?o4x37 (ja ?o5x37 jw)))))) ?restx37
  case hAx37 =>
    intro ptrs
    simp only [full, foldSlots, filledE, postE, List.foldl_cons, List.foldl_nil, List.getD_cons_zero, List.getD_cons_succ, jr, List.set_cons_zero, List.set_cons_succ]
    exact rfl
  case o0x37 => exact fun _ _ hw _ => jb (v := pK g1 54) rfl (jd 46 _ 7 rfl _ _ rfl _)
  case o1x37 => exact fun _ _ hw _ => jb (v := .agg (c29 f.ti f.tn)) rfl (jf 29 _ rfl g1 54 2 rfl 46 _ (hw.has kg1) _ Try.underlying29 rfl si29 _)
  case o2x37 => exact fun _ _ _ _ => jg (v := pK r 0) _ rfl rfl rfl
  case o3x37 => exact fun _ _ hw _ => jb (v := pK r 0) rfl (jj _ rfl _ rfl)
  case o4x37 => exact fun _ _ hw _ => jb (v := pK r 18) rfl (jd 34 _ 3 rfl _ _ rfl _)
  case o5x37 => exact fun _ _ hw _ => jb (v := .agg (c29 ni nn)) rfl (jf 29 _ rfl r 18 2 rfl 34 _ (hw.has kr) _ Try.underlying29 rfl si29 _)
  intro ptrs w24 GD hxE
  simp only [List.drop_succ_cons, List.drop_zero]
  replace kr := GD.has kr
  replace kg1 := GD.has kg1
  replace kg2 := GD.has kg2
  replace kg3 := GD.has kg3
  replace kg4 := GD.has kg4
  replace kg5 := GD.has kg5
  replace GG := GG.drew.tg GD
  clear GD
  refine sv 105 (vFa) (zq _ _ _ rfl f.ti f.tn ni nn rfl rfl false (by rw [hs]; rfl) _) (mv 106 (vFa) (jI 107 rfl rfl (pK g4 1) (jd 62 _ 1 rfl _ _ rfl _) ?_))
  refine nr ?_; intro U h; simp only [z0, z1] at h; subst h
  refine jI 108 rfl rfl (vTr) (jh 4 _ rfl g4 1 rfl 62 _ kg4 (na4 _) _ rfl) (mv 109 (vTr) (wpList_nil (jc (wp_cond_true rfl (wp_region_lit (mv 110 (pK r 0) ?_))))))
  refine jz 111 rfl rfl _ 36 Try.call36 rfl rfl _ rfl [pK r 0] rfl (zE _ r B id true true ni nn f.fi f.fn f.a none 0 [] 0 0 (WX.new kr H.base (by decide))) ?_
  intro w25 G
  replace kr := G.has kr
  replace kg1 := G.has kg1
  replace kg2 := G.has kg2
  replace kg3 := G.has kg3
  replace kg4 := G.has kg4
  replace kg5 := G.has kg5
  replace GG := GG.tg G
  clear G
  refine zk 112 rfl rfl 50 1 _ rfl [(0, .agg (c46 1 zF 0 false id zF 0 ni nn f.fi f.fn Sl.nil Sl.nil zF 0 zF Sl.nil 0 0 Sl.nil))] rfl (c46 1 zF 0 false id zF 0 ni nn f.fi f.fn Sl.nil Sl.nil zF 0 zF Sl.nil 0 0 Sl.nil) 46 (by kernel_rfl) ?_
  intro w26 g6 G eg6 kg6
  have bg6 := jl GG eg6
  have drg6 := je kr eg6
  have dg1g6 := je kg1 eg6
  have dg2g6 := je kg2 eg6
  have dg3g6 := je kg3 eg6
  have dg4g6 := je kg4 eg6
  have dg5g6 := je kg5 eg6
  replace kr := G.has kr
  replace kg1 := G.has kg1
  replace kg2 := G.has kg2
  replace kg3 := G.has kg3
  replace kg4 := G.has kg4
  replace kg5 := G.has kg5
  replace GG := GG.tg G
  clear G eg6
  refine nr ?_; intro U h; simp only [z0, z1] at h; subst h
  refine sv 113 (pK g4 4) (jd 62 _ 4 rfl _ _ rfl _) ?_
  refine jn rfl rfl 50 _ _ rfl g4 4 rfl (.slice (some ⟨g6, 0, none⟩) 1 1) rfl 62 _ kg4 #[.slice (some ⟨g6, 0, none⟩) 1 1] rfl (by kernel_rfl) (nlB rfl) (by kernel_rfl) (c62 true true Sl.nil false ⟨some ⟨g6, 0, none⟩, 1, 1⟩) (by kernel_rfl) ?_
  intro w28 St
  replace kr := St.has (by omega) kr
  replace kg1 := St.has (by omega) kg1
  replace kg2 := St.has (by omega) kg2
  replace kg3 := St.has (by omega) kg3
  replace kg5 := St.has (by omega) kg5
  replace kg6 := St.has (by omega) kg6
  replace GG := GG.st St (.inl bg4)
  replace kg4 := St.new
  clear St
  refine wpList_nil (zh (jc (wp_seq (wp_region_lit (sv 203 (.agg (c62 true true Sl.nil false ⟨some ⟨g6, 0, none⟩, 1, 1⟩)) (jf 62 _ rfl g4 0 5 rfl 62 _ kg4 _ Try.underlying62 rfl si62 _) ?_)))))
  refine jn rfl rfl 62 _ _ rfl g3 0 rfl (.agg (c62 true true Sl.nil false ⟨some ⟨g6, 0, none⟩, 1, 1⟩)) rfl 62 _ kg3 (c62 true true Sl.nil false ⟨some ⟨g6, 0, none⟩, 1, 1⟩) rfl (by kernel_rfl) (nlB rfl) (by kernel_rfl) (c62 true true Sl.nil false ⟨some ⟨g6, 0, none⟩, 1, 1⟩) (by kernel_rfl) ?_
  intro w30 St
  replace kr := St.has (by omega) kr
  replace kg1 := St.has (by omega) kg1
  replace kg2 := St.has (by omega) kg2
  replace kg4 := St.has (by omega) kg4
  replace kg5 := St.has (by omega) kg5
  replace kg6 := St.has (by omega) kg6
  replace GG := GG.st St (.inl bg3)
  replace kg3 := St.new
  clear St
  refine wpList_nil (jc (wp_ret ?_))
  refine bodyPost_ret (results_cell_row Try.results22 _ _ g3 62 _ (0, 0) _ rfl kg3 Try.underlying62 rfl (by kernel_rfl)) rfl ?_
  exact ⟨_, (r :: blk none), [], rfl, TV.one (f := pfr ⟨1, id, ni, nn, f.fi, f.fn, 0, []⟩ Sl.nil Sl.nil Sl.nil Sl.nil) kg6 (zQ _ _ _ _ _ _ _ _), ⟨B, none, 0, [], WX.new kr H.base (by decide), Nat.zero_le _, rfl, rfl, rfl⟩, GG.p1, Fresh.rnew, Fresh.nil0 _ _⟩
theorem Jc (w : World) (r B : Nat) (id : Nat → Nat) (op : Bool) (mi mn pi pn : Int) (oth : Nat → Nat) (so : Option Addr) (sc : Nat) (u : List RV) (k c : Nat) (H : WX 34 (c34 id true op mi mn pi pn oth ⟨so, u.length, sc⟩ ((k : Nat) : Int) ((c : Nat) : Int)) w r B so sc u) (hk : k ≤ u.length) (f : Fr) (d : FD) (ni nn : Int) (hf1 : f.kind = 1) : Calls Try.prog 22 #[pK r 0, .agg (frA f), .agg (c29 ni nn)] w (HearD w r id (r :: blk so) (txb u) (helloS id ⟨true, op, mi, mn, pi, pn, oth, k, ((u.drop k).map (·.l)), c⟩ (pin f d) ni nn)) := by
  cases hl : lessN f.fi f.fn pi pn
  case true =>
    rw [show helloS id ⟨true, op, mi, mn, pi, pn, oth, k, ((u.drop k).map (·.l)), c⟩ (pin f d) ni nn = (⟨true, op, mi, mn, pi, pn, oth, k, ((u.drop k).map (·.l)), c⟩, PT.no) from if_pos (.inl hl)]; exact uY w r B id op mi mn pi pn oth so sc u k c H hk f ni nn hf1 hl
  cases hz : (decide (f.fi = 0) && decide (f.fn = 0))
  case true =>
    rw [show helloS id ⟨true, op, mi, mn, pi, pn, oth, k, ((u.drop k).map (·.l)), c⟩ (pin f d) ni nn = (⟨true, op, mi, mn, pi, pn, oth, k, ((u.drop k).map (·.l)), c⟩, PT.no) from if_pos (.inr (zA hz))]; exact uW w r B id op mi mn pi pn oth so sc u k c H hk f ni nn hf1 hl hz
  have h0 : ¬ (lessN f.fi f.fn pi pn = true ∨ (f.fi = 0 ∧ f.fn = 0)) := by
    rintro (h | h)
    · rw [hl] at h
      cases h
    · exact zU hz h
  cases hg : lessN pi pn f.fi f.fn
  case false =>
    rw [show helloS id ⟨true, op, mi, mn, pi, pn, oth, k, ((u.drop k).map (·.l)), c⟩ (pin f d) ni nn = metS id false ⟨true, op, mi, mn, pi, pn, oth, k, ((u.drop k).map (·.l)), c⟩ (pin f d) from (if_neg h0).trans (if_neg (show ¬ lessN pi pn f.fi f.fn = true by rw [hg]; simp))]
    cases hs : (decide (f.ti = mi) && decide (f.tn = mn))
    case false => rw [show metS id false ⟨true, op, mi, mn, pi, pn, oth, k, ((u.drop k).map (·.l)), c⟩ (pin f d) = (⟨true, op, mi, mn, pi, pn, oth, k, ((u.drop k).map (·.l)), c⟩, ⟨false, false, [], false, [⟨1, id, mi, mn, pi, pn, 0, []⟩]⟩) from if_neg (zU hs)]; exact uX w r B id op mi mn pi pn oth so sc u k c H hk f ni nn hf1 hl hz hg hs
    cases op
    · rw [show metS id false ⟨true, false, mi, mn, pi, pn, oth, k, ((u.drop k).map (·.l)), c⟩ (pin f d) = (⟨true, true, mi, mn, pi, pn, oth, k, ((u.drop k).map (·.l)), c⟩, ⟨false, true, [], false, [⟨1, id, mi, mn, pi, pn, 0, []⟩]⟩) from if_pos (zA hs)]; exact vR w r B id mi mn pi pn oth so sc u k c H hk f ni nn hf1 hl hz hg hs
    · rw [show metS id false ⟨true, true, mi, mn, pi, pn, oth, k, ((u.drop k).map (·.l)), c⟩ (pin f d) = (⟨true, true, mi, mn, pi, pn, oth, k, ((u.drop k).map (·.l)), c⟩, ⟨false, false, [], false, [⟨3, zF, mi, mn, pi, pn, ((c : Nat) : Int), []⟩]⟩) from if_pos (zA hs)]; exact JF w r B id mi mn pi pn oth so sc u k c H hk f ni nn hf1 hl hz hg hs
  rw [show helloS id ⟨true, op, mi, mn, pi, pn, oth, k, ((u.drop k).map (·.l)), c⟩ (pin f d) ni nn = metS id op (anewS ⟨true, op, mi, mn, pi, pn, oth, k, ((u.drop k).map (·.l)), c⟩ (pin f d) ni nn) (pin f d) from (if_neg h0).trans (if_pos hg)]
  cases op
  · cases hs : (decide (f.ti = mi) && decide (f.tn = mn))
    case false => rw [show metS id false (anewS ⟨true, false, mi, mn, pi, pn, oth, k, ((u.drop k).map (·.l)), c⟩ (pin f d) ni nn) (pin f d) = (⟨true, false, mi, mn, f.fi, f.fn, f.a, 0, [], 0⟩, ⟨false, false, [], false, [⟨1, id, mi, mn, f.fi, f.fn, 0, []⟩]⟩) from if_neg (zU hs)]; exact Ja w r B id mi mn pi pn oth so sc u k c H hk f ni nn hf1 hl hz hg hs
    rw [show metS id false (anewS ⟨true, false, mi, mn, pi, pn, oth, k, ((u.drop k).map (·.l)), c⟩ (pin f d) ni nn) (pin f d) = (⟨true, true, mi, mn, f.fi, f.fn, f.a, 0, [], 0⟩, ⟨false, true, [], false, [⟨1, id, mi, mn, f.fi, f.fn, 0, []⟩]⟩) from if_pos (zA hs)]; exact yR w r B id mi mn pi pn oth so sc u k c H hk f ni nn hf1 hl hz hg hs
  · cases hs : (decide (f.ti = ni) && decide (f.tn = nn))
    case false => rw [show metS id true (anewS ⟨true, true, mi, mn, pi, pn, oth, k, ((u.drop k).map (·.l)), c⟩ (pin f d) ni nn) (pin f d) = (⟨true, false, ni, nn, f.fi, f.fn, f.a, 0, [], 0⟩, ⟨true, false, [], false, [⟨1, id, ni, nn, f.fi, f.fn, 0, []⟩]⟩) from if_neg (zU hs)]; exact uZ w r B id mi mn pi pn oth so sc u k c H hk f ni nn hf1 hl hz hg hs
    rw [show metS id true (anewS ⟨true, true, mi, mn, pi, pn, oth, k, ((u.drop k).map (·.l)), c⟩ (pin f d) ni nn) (pin f d) = (⟨true, true, ni, nn, f.fi, f.fn, f.a, 0, [], 0⟩, ⟨true, true, [], false, [⟨1, id, ni, nn, f.fi, f.fn, 0, []⟩]⟩) from if_pos (zA hs)]; exact yQ w r B id mi mn pi pn oth so sc u k c H hk f ni nn hf1 hl hz hg hs
end Go.Proofs.Ytlfanecaglbomaa
