/- The document's end: Tick; each call, told of the end alone. Rows of frames compared; frames that fit. -/
import Derived.Test.YtlfanecaglbomaaCH12
import Derived.Test.YtlfanecaglbomaaCFr10
namespace Go.Proofs.Ytlfanecaglbomaa
set_option maxRecDepth 100000
set_option maxHeartbeats 4000000
open Go.RowKit
theorem WX.row46 {t : TypeId} {cs : Array Value} {w w' : World} {p B : Nat} {ao : Option Addr} {cap : Nat} {q : List RV} (H : WX t cs w p B ao cap q) {B' : Nat} {oo : Option Addr} {oc n : Nat} {cs' : List Value} (R : OY w 46 95 B' oo oc n cs') (G : GroS (blk oo) w w') (ht : t ≠ 46) : WX t cs w' p B ao cap q :=
  H.gros G (R.ne H.box ht) (fun k hk hm => by obtain ⟨_, cur, hc⟩ := H.row.at k hk; exact R.ne hc (by decide) hm) (fun x hx ad ha hm => by obtain ⟨cur, hc⟩ := (H.fr x hx).blk5 ha; exact R.ne hc (by decide) hm)
theorem LF.no5b {w : World} {B : Nat} {ao : Option Addr} {cap : Nat} {fs : List (PF × Fr)} (h : LF w B ao cap fs) : No5 w (blk ao) := fun k hk => by
  obtain ⟨_, cur, hc⟩ := h.row.at k hk
  exact ⟨_, _, hc, by decide⟩
theorem xc_fr {w : World} {g : Nat} {f : Fr} (hg : w.heap[g]? = some (.cells (frA f) 46 (0, 0))) : XC w 95 (some ⟨g, 0, none⟩) 1 1 (frA f).toList := by
  refine ⟨zR f, Nat.le_refl _, fun h => by (cases h), fun ad ha j v hv => ?_, Zi f⟩
  cases ha
  rw [zO, Nat.zero_add, cell_of_row w g j _ 46 _ hg]
  simpa using hv
theorem LF.snoc {w w' : World} {B : Nat} {ao ao2 : Option Addr} {cap cap2 : Nat} {fs : List (PF × Fr)} {m : PF} {f : Fr} (h : LF w B ao cap fs) (hf : FV w m f) (G : GroS (blk ao) w w') (hr : OY w' 46 95 B ao2 cap2 (fs.length + 1) (cellsF fs ++ (frA f).toList)) : LF w' B ao2 cap2 (fs ++ [(m, f)]) := by
  refine ⟨?_, fun x hx => ?_⟩
  · have e : cellsF (fs ++ [(m, f)]) = cellsF fs ++ (frA f).toList := by rw [vM]; simp [cellsF]
    rw [e, List.length_append]
    exact hr
  · rcases List.mem_append.1 hx with hx | hx
    · exact (h.fv x hx).no5 G h.no5b
    · cases List.mem_singleton.1 hx
      exact hf.no5 G h.no5b
def ListD (w : World) (r : Nat) (id : Nat → Nat) (mu tb : List Nat) (z : ES × List PF) (e : Ending) (w' : World) : Prop := ∃ (ao : Option Addr) (cap : Nat) (fs : List (PF × Fr)) (mu' tb' : List Nat), e = .returned (.slice ao fs.length cap) ∧ fs.map (·.1) = z.2 ∧ LF w' 0 ao cap fs ∧ DX w' r id z.1 mu' tb' ∧ GroS mu w w' ∧ Fresh w mu mu' ∧ Fresh w tb tb'
theorem JA (w : World) (r B : Nat) (id : Nat → Nat) (op : Bool) (mi mn pi pn : Int) (oth : Nat → Nat) (so : Option Addr) (sc : Nat) (u : List RV) (k c : Nat) (H : WX 34 (c34 id false op mi mn pi pn oth ⟨so, u.length, sc⟩ ((k : Nat) : Int) ((c : Nat) : Int)) w r B so sc u) (hk : k ≤ u.length) : Calls Try.prog 15 #[pK r 0] w (ListD w r id (r :: blk so) (txb u) (⟨false, op, mi, mn, pi, pn, oth, k, ((u.drop k).map (·.l)), c⟩, [])) := by
  refine jp Try.func15 rfl Try.ntmps15 [pK r 0] ?_
  intro U h; simp only [List.length_cons, List.length_nil, List.cons_append, List.nil_append, Nat.reduceAdd, Nat.reduceSub, List.reduceReplicate] at h; subst h
  have GG := Gro.refl w
  have kr := H.box
  have hpl := H.lt
  have hBl := H.bl
  have HX := H
  refine wp_seq (wp_region_lit (mv 2 (.slice none 0 0) (wpList_nil (jc (wp_seq (wp_seq (wp_region_lit (mv 7 (pK r 0) (sv 8 (pK r 0) (jj _ rfl _ rfl) (sv 9 (pK r 16) (jd 34 _ 1 rfl _ _ rfl _) (sv 10 (vFa) (jh 4 _ rfl r 16 rfl 34 _ kr (na4 _) _ rfl) ?_)))))))))))
  refine sv 11 (vTr) (jE _ _ rfl false rfl) (wpList_nil (jc (wp_cond_true rfl (wp_seq (wp_region_lit (mv 2 (.slice none 0 0) (wpList_nil (jc (wp_ret (jC ?_))))))))))
  refine bodyPost_ret (results_tmp Try.results15 _ _ _) rfl ?_
  exact ⟨none, 0, [], (r :: blk so), (txb u), rfl, rfl, LF.nil _ _, ⟨B, so, sc, u, HX, hk, rfl, rfl, rfl⟩, GroS.of GG, Fresh.refl _ _, Fresh.refl _ _⟩
theorem Jy (w : World) (r B : Nat) (id : Nat → Nat) (mi mn pi pn : Int) (oth : Nat → Nat) (so : Option Addr) (sc : Nat) (u : List RV) (k c : Nat) (H : WX 34 (c34 id true false mi mn pi pn oth ⟨so, u.length, sc⟩ ((k : Nat) : Int) ((c : Nat) : Int)) w r B so sc u) (hk : k ≤ u.length) : Calls Try.prog 15 #[pK r 0] w (ListD w r id (r :: blk so) (txb u) (⟨true, false, mi, mn, pi, pn, oth, k, ((u.drop k).map (·.l)), c⟩, [⟨1, id, mi, mn, pi, pn, 0, []⟩])) := by
  refine jp Try.func15 rfl Try.ntmps15 [pK r 0] ?_
  intro U h; simp only [List.length_cons, List.length_nil, List.cons_append, List.nil_append, Nat.reduceAdd, Nat.reduceSub, List.reduceReplicate] at h; subst h
  have GG := Gro.refl w
  have kr := H.box
  have hpl := H.lt
  have hBl := H.bl
  have HX := H
  refine wp_seq (wp_region_lit (mv 2 (.slice none 0 0) (wpList_nil (jc (wp_seq (wp_seq (wp_region_lit (mv 7 (pK r 0) (sv 8 (pK r 0) (jj _ rfl _ rfl) (sv 9 (pK r 16) (jd 34 _ 1 rfl _ _ rfl _) (sv 10 (vTr) (jh 4 _ rfl r 16 rfl 34 _ kr (na4 _) _ rfl) ?_)))))))))))
  refine sv 11 (vFa) (jE _ _ rfl true rfl) (wpList_nil (jc (wp_cond_false rfl (wp_skip (jc (wp_seq (wp_seq (wp_region_lit (mv 12 (pK r 0) (sv 13 (pK r 0) (jj _ rfl _ rfl) (sv 14 (pK r 17) (jd 34 _ 2 rfl _ _ rfl _) ?_)))))))))))
  refine nr ?_; intro U h; simp only [z0, z1] at h; subst h
  refine sv 15 (vFa) (jh 4 _ rfl r 17 rfl 34 _ kr (na4 _) _ rfl) (sv 16 (vTr) (jE _ _ rfl false rfl) (wpList_nil (jc (wp_cond_true rfl (wp_seq (wp_region_lit (mv 17 (pK r 0) ?_)))))))
  refine jz 18 rfl rfl _ 36 Try.call36 rfl rfl _ rfl [pK r 0] rfl (zE _ r B id true false mi mn pi pn oth so sc u k c HX) ?_
  intro w1 G
  replace kr := G.has kr
  replace HX := HX.gro G
  replace GG := GG.trans G
  clear G
  refine zk 19 rfl rfl 50 1 _ rfl [(0, .agg (c46 1 zF 0 false id zF 0 mi mn pi pn Sl.nil Sl.nil zF 0 zF Sl.nil 0 0 Sl.nil))] rfl (c46 1 zF 0 false id zF 0 mi mn pi pn Sl.nil Sl.nil zF 0 zF Sl.nil 0 0 Sl.nil) 46 (by kernel_rfl) ?_
  intro w2 g1 G eg1 kg1
  have bg1 := jm GG eg1
  have drg1 := je kr eg1
  replace kr := G.has kr
  replace HX := HX.gro G
  replace GG := GG.trans G
  clear G eg1
  refine mv 2 (.slice (some ⟨g1, 0, none⟩) 1 1) (wpList_nil (jc (wp_ret (jC ?_))))
  refine bodyPost_ret (results_tmp Try.results15 _ _ _) rfl ?_
  exact ⟨_, _, [(⟨1, id, mi, mn, pi, pn, 0, []⟩, pfr ⟨1, id, mi, mn, pi, pn, 0, []⟩ Sl.nil Sl.nil Sl.nil Sl.nil)], (r :: blk so), (txb u), rfl, rfl, LF.one kg1 (Nat.zero_le _) (zQ _ _ _ _ _ _ _ _), ⟨B, so, sc, u, HX, hk, rfl, rfl, rfl⟩, GroS.of GG, Fresh.refl _ _, Fresh.refl _ _⟩
theorem Jz (w : World) (r B : Nat) (id : Nat → Nat) (mi mn pi pn : Int) (oth : Nat → Nat) (so : Option Addr) (sc : Nat) (u : List RV) (k c : Nat) (H : WX 34 (c34 id true true mi mn pi pn oth ⟨so, u.length, sc⟩ ((k : Nat) : Int) ((c : Nat) : Int)) w r B so sc u) (hk : k ≤ u.length) (hu : u.length ≤ 100000) (hc : c ≤ 100000) : Calls Try.prog 15 #[pK r 0] w (ListD w r id (r :: blk so) (txb u) (⟨true, true, mi, mn, pi, pn, oth, k, ((u.drop k).map (·.l)), c⟩, ticksF ⟨true, true, mi, mn, pi, pn, oth, k, ((u.drop k).map (·.l)), c⟩ (k + 1) ((u.drop k).map (·.l)))) := by
  refine jp Try.func15 rfl Try.ntmps15 [pK r 0] ?_
  intro U h; simp only [List.length_cons, List.length_nil, List.cons_append, List.nil_append, Nat.reduceAdd, Nat.reduceSub, List.reduceReplicate] at h; subst h
  have GG := Gro.refl w
  have kr := H.box
  have hpl := H.lt
  have hBl := H.bl
  have HX := H
  obtain ⟨qs, hqs⟩ : ∃ qs, (u.drop k).map (·.l) = qs := ⟨_, rfl⟩
  have hql : (u.drop k).length = qs.length := by rw [← hqs, List.length_map]
  have hsm : ∀ l ∈ qs, l.length ≤ 140737488355000 := fun l hl => by rw [← hqs] at hl; obtain ⟨y, hy, rfl⟩ := List.mem_map.1 hl; exact H.sm y (List.mem_of_mem_drop hy)
  have hq1 : qs.length ≤ 100000 := by rw [← hql, List.length_drop]; omega
  refine wp_seq (wp_region_lit (mv 2 (.slice none 0 0) (wpList_nil (jc (wp_seq (wp_seq (wp_region_lit (mv 7 (pK r 0) (sv 8 (pK r 0) (jj _ rfl _ rfl) (sv 9 (pK r 16) (jd 34 _ 1 rfl _ _ rfl _) (sv 10 (vTr) (jh 4 _ rfl r 16 rfl 34 _ kr (na4 _) _ rfl) ?_)))))))))))
  refine sv 11 (vFa) (jE _ _ rfl true rfl) (wpList_nil (jc (wp_cond_false rfl (wp_skip (jc (wp_seq (wp_seq (wp_region_lit (mv 12 (pK r 0) (sv 13 (pK r 0) (jj _ rfl _ rfl) (sv 14 (pK r 17) (jd 34 _ 2 rfl _ _ rfl _) ?_)))))))))))
  refine nr ?_; intro U h; simp only [z0, z1] at h; subst h
  refine sv 15 (vTr) (jh 4 _ rfl r 17 rfl 34 _ kr (na4 _) _ rfl) (sv 16 (vFa) (jE _ _ rfl true rfl) (wpList_nil (jc (wp_cond_false rfl (wp_skip (jc (wp_seq (wp_region_lit (mv 3 (.slice none 0 0) (wpList_nil (jc (wp_seq (wp_region_lit (mv 21 (pK r 0) (sv 22 (pK r 0) (jj _ rfl _ rfl) ?_)))))))))))))))
  refine sv 23 (pK r 38) (jd 34 _ 6 rfl _ _ rfl _) ?_
  refine jz 24 rfl rfl _ 26 Try.call26 rfl rfl _ rfl [pK r 38] rfl (yD _ r B id true true mi mn pi pn oth so sc u k c HX hk hu hc) ?_
  intro w1 G
  replace kr := G.has kr
  replace HX := HX.gro G
  replace GG := GG.trans G
  clear G
  refine mv 20 (.tuple #[iK ((k + 1 : Nat) : Int), .slice (if sc = k then so else so.map (·.add (k * 1))) ((u.drop k).length) (sc - k)]) (mv 25 (iK ((k + 1 : Nat) : Int)) ?_)
  refine nr ?_; intro U h; simp only [z0, z1] at h; subst h
  refine mv 26 (.slice (if sc = k then so else so.map (·.add (k * 1))) ((u.drop k).length) (sc - k)) (mv 4 (iK ((k + 1 : Nat) : Int)) (mv 5 (.slice (if sc = k then so else so.map (·.add (k * 1))) ((u.drop k).length) (sc - k)) (wpList_nil (jc (wp_seq (wp_seq (wp_region_lit (mv 6 (iK 0) (wpList_nil (jc (wp_block ?_)))))))))))
  refine zB (fun mz az wv => ∃ (j : Nat) (fs : List (PF × Fr)) (oo : Option Addr) (oc : Nat) (us1 : Nat → Value), mz = qs.length - j ∧ az = ⟨[pK r 0, undef, .slice none 0 0, .slice oo fs.length oc, iK ((k + 1 : Nat) : Int), .slice (if sc = k then so else so.map (·.add (k * 1))) ((u.drop k).length) (sc - k), iK ((j : Nat) : Int), pK r 0, pK r 0, pK r 16, vTr, vFa, pK r 0, pK r 0, pK r 17, vTr, vFa, undef, undef, undef, .tuple #[iK ((k + 1 : Nat) : Int), .slice (if sc = k then so else so.map (·.add (k * 1))) ((u.drop k).length) (sc - k)], pK r 0, pK r 0, pK r 38, .tuple #[iK ((k + 1 : Nat) : Int), .slice (if sc = k then so else so.map (·.add (k * 1))) ((u.drop k).length) (sc - k)], iK ((k + 1 : Nat) : Int), .slice (if sc = k then so else so.map (·.add (k * 1))) ((u.drop k).length) (sc - k), us1 0, us1 1, us1 2, us1 3, us1 4, us1 5, us1 6, us1 7, us1 8, us1 9, us1 10, us1 11, us1 12, us1 13, us1 14, us1 15, us1 16, us1 17, undef].toArray, []⟩ ∧ j ≤ qs.length ∧ fs.length = j ∧ fs.map (·.1) = ticksF ⟨true, true, mi, mn, pi, pn, oth, k, qs, c⟩ (k + 1) (qs.take j) ∧ Gro w wv ∧ wv.heap[r]? = some (.cells (c34 id true true mi mn pi pn oth ⟨so, u.length, sc⟩ ((k : Nat) : Int) ((c : Nat) : Int)) 34 (0, 0)) ∧ WX 34 (c34 id true true mi mn pi pn oth ⟨so, u.length, sc⟩ ((k : Nat) : Int) ((c : Nat) : Int)) wv r B so sc u ∧ LF wv w.heap.size oo oc fs) ?_ _ ⟨0, [], none, 0, usB [27, 28, 29, 30, 31, 32, 33, 34, 35, 36, 37, 38, 39, 40, 41, 42, 43, 44] rfl rfl ⟨Nat.zero_le _, rfl, rfl, GG, kr, HX, (LF.nil _ _)⟩⟩
  clear kr GG HX
  rintro mz az wv ⟨j, fs, oo, oc, us1, rfl, rfl, hj, hfs, hft, GG, kr, HX, HL⟩
  refine wp_seq (wp_seq (wp_region_lit (mv 27 (iK ((j : Nat) : Int)) (mv 28 (.slice (if sc = k then so else so.map (·.add (k * 1))) ((u.drop k).length) (sc - k)) (sv 29 (iK ((qs.length : Nat) : Int)) ((jM Try.underlying30 _ rfl _ _ _ rfl _).trans (by rw [hql])) ?_)))))
  refine nr ?_; intro U h; simp only [z0, z1] at h; subst h
  obtain ⟨p1, hp1⟩ : ∃ p, decide (((j : Nat) : Int) < ((qs.length : Nat) : Int)) = p := ⟨_, rfl⟩
  refine sv 30 (.bool p1) (jQ 3 _ _ _ rfl ((j : Nat) : Int) ((qs.length : Nat) : Int) rfl rfl p1 hp1 _) ?_
  refine nr ?_; intro U h; simp only [z0, z1] at h; subst h
  cases p1
  have hjn : j = qs.length := by have := of_decide_eq_false hp1; omega
  refine wpList_nil (jc (wp_cond_false rfl (wp_exit (zi (zi (yl (jc (wp_seq (wp_region_lit (mv 45 (.slice oo fs.length oc) (mv 2 (.slice oo fs.length oc) (wpList_nil (jc (wp_ret ?_))))))))))))))
  refine bodyPost_ret (results_tmp Try.results15 _ _ _) rfl ?_
  subst hjn
  refine ⟨oo, oc, fs, (r :: blk so), (txb u), rfl, ?_, HL.mono (Nat.zero_le _), ⟨B, so, sc, u, HX, hk, rfl, rfl, rfl⟩, GroS.of GG, Fresh.refl _ _, Fresh.refl _ _⟩
  rw [hft, List.take_of_length_le (Nat.le_refl _), hqs]
  have hjn : j < qs.length := by have := of_decide_eq_true hp1; omega
  have LCC := HX.lcd k hk
  rw [hqs] at LCC
  obtain ⟨ad, ay, cy, hao, hcy, ncy⟩ := LCC.at hjn
  have hyl := hsm (qs.getD j []) (by rw [List.getD_eq_getElem?_getD, List.getElem?_eq_getElem hjn]; exact List.getElem_mem hjn)
  clear LCC
  refine wpList_nil (jc (wp_cond_true rfl (wp_skip (jc (wp_seq (wp_block (wp_region_lit (mv 33 (.slice oo fs.length oc) (mv 34 (pK r 0) (mv 35 (iK ((k + 1 : Nat) : Int)) (mv 36 (iK ((j : Nat) : Int)) (sv 37 (iK ((k + 1 + j : Nat) : Int)) (jZ 2 _ _ _ rfl ((k + 1 : Nat) : Int) ((j : Nat) : Int) ((k + 1 + j : Nat) : Int) rfl rfl (by omega) (by omega) (by omega) _) ?_))))))))))))
  refine mv 38 (.slice (if sc = k then so else so.map (·.add (k * 1))) ((u.drop k).length) (sc - k)) (mv 39 (iK ((j : Nat) : Int)) ?_)
  refine nr ?_; intro U h; simp only [z0, z1] at h; subst h
  refine sv 40 (.pointer (some (ad.add j))) (zX _ _ rfl ad (u.drop k).length (sc - k) j (by exact congrArg (fun a => Value.slice a (u.drop k).length (sc - k)) hao) rfl (by omega) _) (sv 41 (.slice ay ((qs.getD j []).length) cy) (yn _ rfl _ rfl _ _ hcy) ?_)
  refine jD 42 rfl rfl _ 39 Try.call39 rfl rfl _ rfl [pK r 0, iK ((k + 1 + j : Nat) : Int), .slice ay ((qs.getD j []).length) cy] rfl (ua _ r B id true true mi mn pi pn oth so sc u k c HX ((k + 1 + j : Nat) : Int) ay cy (qs.getD j []) ncy hyl) (fun _ _ ⟨_, _, he, _⟩ => ⟨_, he⟩) ?_
  rintro v w2 ⟨ao3, cap3, he, OC, G⟩
  cases he
  clear hcy ncy
  replace kr := G.has kr
  replace HX := HX.gro G
  replace HL := HL.gro G
  replace GG := GG.trans G
  clear G
  refine zk 43 rfl rfl 50 1 _ rfl [(0, .agg (c46 2 zF 0 false zF zF ((k + 1 + j : Nat) : Int) mi mn pi pn Sl.nil Sl.nil zF 0 zF Sl.nil 0 0 ⟨ao3, (qs.getD j []).length, cap3⟩))] rfl (c46 2 zF 0 false zF zF ((k + 1 + j : Nat) : Int) mi mn pi pn Sl.nil Sl.nil zF 0 zF Sl.nil 0 0 ⟨ao3, (qs.getD j []).length, cap3⟩) 46 (by kernel_rfl) ?_
  intro w3 g1 G eg1 kg1
  have bg1 := jm GG eg1
  have drg1 := je kr eg1
  replace kr := G.has kr
  replace HX := HX.gro G
  replace HL := HL.gro G
  replace OC := OC.gro G
  replace GG := GG.trans G
  clear G eg1
  refine nr ?_; intro U h; simp only [z0, z1] at h; subst h
  have hlb := HL.row.base
  have HVf : FV _ ⟨2, zF, mi, mn, pi, pn, ((k + 1 + j : Nat) : Int), qs.getD j []⟩ (pfr ⟨2, zF, mi, mn, pi, pn, ((k + 1 + j : Nat) : Int), qs.getD j []⟩ Sl.nil Sl.nil Sl.nil ⟨ao3, (qs.getD j []).length, cap3⟩) := JS OC
  refine s_appY rF 44 rfl rfl _ _ rfl rfl HL.row (ao' := some ⟨g1, 0, none⟩) (cap' := 1) (m := 1) (cs' := (frA (pfr ⟨2, zF, mi, mn, pi, pn, ((k + 1 + j : Nat) : Int), qs.getD j []⟩ Sl.nil Sl.nil Sl.nil ⟨ao3, (qs.getD j []).length, cap3⟩)).toList) rfl (xc_fr kg1) (by omega) (by decide) GG.size ?_
  intro oo2 oc2 w4 HY2 G hkp
  replace kr := G.has kr (HL.row.ne kr (by decide))
  replace HX := HX.row46 HL.row G (by decide)
  replace HL := HL.snoc HVf G HY2
  replace GG := G.gro GG hlb
  clear G HY2 HVf hkp OC
  refine mv 3 (.slice oo2 (fs.length + 1) oc2) (wpList_nil (zh (jc (wp_region_lit (mv 31 (iK ((j : Nat) : Int)) (sv 32 (iK ((j + 1 : Nat) : Int)) (jZ 3 _ _ _ rfl ((j : Nat) : Int) 1 ((j + 1 : Nat) : Int) rfl rfl (by omega) (by omega) (by omega) _) (mv 6 (iK ((j + 1 : Nat) : Int)) (wpList_nil (jc ?_)))))))))
  refine ⟨_, (by omega : qs.length - (j + 1) < qs.length - j), j + 1, fs ++ [(⟨2, zF, mi, mn, pi, pn, ((k + 1 + j : Nat) : Int), qs.getD j []⟩, (pfr ⟨2, zF, mi, mn, pi, pn, ((k + 1 + j : Nat) : Int), qs.getD j []⟩ Sl.nil Sl.nil Sl.nil ⟨ao3, (qs.getD j []).length, cap3⟩))], oo2, oc2, usB [27, 28, 29, 30, 31, 32, 33, 34, 35, 36, 37, 38, 39, 40, 41, 42, 43, 44] rfl (by rw [List.length_append]; rfl) ⟨hjn, (by simp [hfs]), ?_, GG, kr, HX, HL⟩⟩
  rw [List.map_append, hft, List.take_add_one, List.getElem?_eq_getElem hjn]
  rw [show (some qs[j]).toList = [qs[j]] from rfl, vt]
  have e : (qs.take j).length = j := by rw [List.length_take]; omega
  have e2 : qs.getD j [] = qs[j] := by rw [List.getD_eq_getElem?_getD, List.getElem?_eq_getElem hjn]; rfl
  rw [e, e2]
  rfl
section
variable {w w' : World} {r : Nat} {id : Nat → Nat} {x : ES} {mu tb : List Nat}
theorem DX.gro (H : DX w r id x mu tb) (G : Gro w w') : DX w' r id x mu tb := by
  obtain ⟨B, so, sc, u, h, h1⟩ := H
  exact ⟨B, so, sc, u, h.gro G, h1⟩
theorem DX.no46 (H : DX w r id x mu tb) : No46 w mu := by
  obtain ⟨B, so, sc, u, h, _, _, rfl, _⟩ := H
  intro g hg
  rcases List.mem_cons.1 hg with rfl | hg
  · exact ⟨_, _, h.box, by decide, by decide⟩
  · obtain ⟨_, cur, hc⟩ := h.row.at g hg
    exact ⟨_, _, hc, by decide, by decide⟩
theorem DX.own (H : DX w r id x mu tb) : No5 w mu := H.no46.no5
theorem DX.txt (H : DX w r id x mu tb) : ∀ g ∈ tb, ∃ cs, w.heap[g]? = some (.cells cs 5 (0, 0)) := by
  obtain ⟨B, so, sc, u, h, _, _, _, rfl⟩ := H
  intro g hg
  obtain ⟨y, hy, hg⟩ := List.mem_flatMap.1 hg
  obtain ⟨ad, ha, rfl⟩ := mem_blk.1 hg
  exact (h.fr y hy).blk5 ha
theorem DX.gros0 (H : DX w r id x mu tb) {S : List Nat} (G : GroS S w w') (hS : ∀ g ∈ S, g ∉ mu) (h5 : ∀ g ∈ S, g ∉ tb) : DX w' r id x mu tb := by
  obtain ⟨B, so, sc, u, h, h1, h2, rfl, rfl⟩ := H
  exact ⟨B, so, sc, u, h.gros G (fun h => hS _ h List.mem_cons_self) (fun k hk h => hS _ h (List.mem_cons_of_mem _ hk)) (fun y hy ad ha h => h5 _ h (List.mem_flatMap.2 ⟨y, hy, mem_blk.2 ⟨ad, ha, rfl⟩⟩)), h1, h2, rfl, rfl⟩
theorem DX.gros (H : DX w r id x mu tb) {S : List Nat} (G : GroS S w w') (hS : ∀ g ∈ S, g ∉ mu) (h5 : No5 w S) : DX w' r id x mu tb :=
  H.gros0 G hS fun g hg hm => by
    obtain ⟨c, t, h2, h3⟩ := h5 g hg
    obtain ⟨c', h4⟩ := H.txt g hm
    exact jJ h2 h4 h3 rfl
theorem DX.five (H : DX w r id x mu tb) {g : Nat} {o : Obj} {c : Array Value} (hg : w.heap[g]? = some (.cells c 5 (0, 0))) (St : Stored w w' g o) (hn : g ∉ tb) : DX w' r id x mu tb :=
  H.gros0 (S := [g]) ((GroS.refl [g] w).st St (.inr (by simp))) (fun k hk hm => by
    cases List.mem_singleton.1 hk
    obtain ⟨c', t, h2, h3⟩ := H.own _ hm
    exact jJ h2 hg h3 rfl) (fun k hk hm => by cases List.mem_singleton.1 hk; exact hn hm)
theorem DX.not (H : DX w r id x mu tb) {g : Nat} {t' : TypeId} {cs : Array Value} (hg : w.heap[g]? = some (.cells cs t' (0, 0))) (h34 : t' ≠ 34) (h36 : t' ≠ 36) : g ∉ mu := by
  obtain ⟨B, so, sc, u, h, _, _, rfl, _⟩ := H
  exact h.notT hg h34 h36
theorem DX.lt (H : DX w r id x mu tb) : ∀ g ∈ mu, g < w.heap.size := fun g hg => by
  obtain ⟨c, t, h, _⟩ := H.own g hg
  exact ju h
theorem DX.tlt (H : DX w r id x mu tb) : ∀ g ∈ tb, g < w.heap.size := fun g hg => by
  obtain ⟨c, h⟩ := H.txt g hg
  exact ju h
theorem DX.stT (H : DX w r id x mu tb) {g : Nat} {t' : TypeId} (h34 : t' ≠ 34) (h36 : t' ≠ 36) (h5 : t' ≠ 5) {cs : Array Value} {o : Obj} (hg : w.heap[g]? = some (.cells cs t' (0, 0))) (St : Stored w w' g o) : DX w' r id x mu tb :=
  H.gros (S := [g]) ((GroS.refl [g] w).st St (.inr (by simp))) (fun k hk => by cases List.mem_singleton.1 hk; exact H.not hg h34 h36) (jG hg h5)
end
theorem yq {u : List RV} {k : Nat} {xq : List (List Nat)} (h : (u.drop k).map (·.l) = xq) (hk : k ≤ u.length) : u.length = k + xq.length := by
  rw [← h, List.length_map, List.length_drop]
  omega
section
variable (w : World) (r : Nat) (id : Nat → Nat) (x : ES) (mu tb : List Nat)
theorem rtick_x (H : DX w r id x mu tb) (hk : x.k + x.q.length ≤ 100000) (hc : x.c ≤ 100000) : Calls Try.prog 15 #[pK r 0] w (ListD w r id mu tb (x, tickS id x)) := by
  obtain ⟨B, so, sc, u, h, h1, h2, rfl, rfl⟩ := H
  have hu := yq h2 h1
  obtain ⟨up, op, mi, mn, pi, pn, oth, k, xq, c⟩ := x
  simp only at h h1 h2 hk hc hu
  subst h2
  cases up
  · exact JA w r B id op mi mn pi pn oth so sc u k c h h1
  · cases op
    · exact Jy w r B id mi mn pi pn oth so sc u k c h h1
    · exact Jz w r B id mi mn pi pn oth so sc u k c h h1 (by omega) hc
theorem rrise_x (H : DX w r id x mu tb) (hx : x.up = false → x = ES.new) (ni nn : Int) : Calls Try.prog 11 #[pK r 0, .agg (c29 ni nn)] w (ListD w r id mu tb (riseS id x ni nn)) := by
  obtain ⟨B, so, sc, u, h, h1, h2, rfl, rfl⟩ := H
  cases hu : x.up
  · have e := hx hu
    subst e
    exact (JD w r B id false 0 0 0 0 zF so sc u 0 0 h ni nn).mono fun e w' ⟨g, he, G, h3, h4, h5⟩ => ⟨_, _, [(_, _)], r :: blk none, [], he, rfl, LF.one (f := pfr ⟨1, id, ni, nn, 0, 0, 0, []⟩ Sl.nil Sl.nil Sl.nil Sl.nil) h4 (Nat.zero_le _) (zQ _ _ _ _ _ _ _ _), ⟨B, none, 0, [], h3, Nat.zero_le _, rfl, rfl, rfl⟩, G.p1, Fresh.rnew, Fresh.nil0 _ _⟩
  · rw [show riseS id x ni nn = (x, []) from if_pos hu]
    rw [hu] at h
    exact (Yb w r B id x.op x.mi x.mn x.pi x.pn x.oth so sc u x.k x.c h ni nn).mono fun e w' ⟨he, G⟩ => ⟨none, 0, [], r :: blk so, txb u, he, rfl, LF.nil _ _, ⟨B, so, sc, u, by rw [hu]; exact h.gro G, h1, h2, rfl, rfl⟩, GroS.of G, Fresh.refl _ _, Fresh.refl _ _⟩
theorem rfall_x (H : DX w r id x mu tb) : Calls Try.prog 13 #[pK r 0] w fun e w' => ∃ mu' tb', e = .returned (.bool x.op) ∧ DX w' r id ES.new mu' tb' ∧ GroS mu w w' ∧ Fresh w mu mu' ∧ Fresh w tb tb' := by
  obtain ⟨B, so, sc, u, h, h1, h2, rfl, rfl⟩ := H
  exact (Zw w r B id x.up x.op x.mi x.mn x.pi x.pn x.oth so sc u x.k x.c h).mono fun e w' ⟨he, G, h3⟩ => ⟨r :: blk none, [], he, ⟨B, none, 0, [], h3, Nat.zero_le _, rfl, rfl, rfl⟩, G.p1, Fresh.rnew, Fresh.nil0 _ _⟩
theorem Zv (H : DX w r id x mu tb) (f : Fr) (d : FD) (HF : FrW w f d) (hl : d.tx.length ≤ 140737488355000) (hne : ∀ ad, f.tx.ao = some ad → 0 < d.tx.length → ad.block ∉ mu) (ni nn : Int) (hk : x.k + x.q.length ≤ 100000) (hc : x.c + 1 ≤ 100000) : Calls Try.prog 22 #[pK r 0, .agg (frA f), .agg (c29 ni nn)] w (HearD w r id mu tb (hearS id x (pin f d) ni nn)) := by
  obtain ⟨B, so, sc, u, h, h1, h2, rfl, rfl⟩ := H
  have hu := yq h2 h1
  obtain ⟨up, op, mi, mn, pi, pn, oth, k, xq, c⟩ := x
  simp only at h h1 h2 hk hc hu
  subst h2
  cases up
  · exact JG w r B id op mi mn pi pn oth so sc u k c h h1 f ni nn
  · by_cases k1 : f.kind = 1
    · rw [show hearS id ⟨true, op, mi, mn, pi, pn, oth, k, ((u.drop k).map (·.l)), c⟩ (pin f d) ni nn = helloS id ⟨true, op, mi, mn, pi, pn, oth, k, ((u.drop k).map (·.l)), c⟩ (pin f d) ni nn from (if_pos rfl).trans (if_pos k1)]
      exact Jc w r B id op mi mn pi pn oth so sc u k c h h1 f d ni nn k1
    · by_cases k2 : f.kind = 2
      · rw [show hearS id ⟨true, op, mi, mn, pi, pn, oth, k, ((u.drop k).map (·.l)), c⟩ (pin f d) ni nn = (if withinS ⟨true, op, mi, mn, pi, pn, oth, k, ((u.drop k).map (·.l)), c⟩ (pin f d) then cameS ⟨true, op, mi, mn, pi, pn, oth, k, ((u.drop k).map (·.l)), c⟩ (pin f d) else (⟨true, op, mi, mn, pi, pn, oth, k, ((u.drop k).map (·.l)), c⟩, PT.no)) from (if_pos rfl).trans ((if_neg k1).trans (if_pos k2))]
        cases ht : (decide (f.ti = mi) && decide (f.tn = mn))
        · rw [if_neg (show ¬ withinS ⟨true, op, mi, mn, pi, pn, oth, k, ((u.drop k).map (·.l)), c⟩ (pin f d) from fun hw => zU ht hw.2)]
          exact rno_2_0 w r B id op mi mn pi pn oth so sc u k c h h1 f ni nn k1 k2 ht
        · cases hp : (decide (f.fi = pi) && decide (f.fn = pn))
          · rw [if_neg (show ¬ withinS ⟨true, op, mi, mn, pi, pn, oth, k, ((u.drop k).map (·.l)), c⟩ (pin f d) from fun hw => zU hp hw.1)]
            exact rno_2_1 w r B id op mi mn pi pn oth so sc u k c h h1 f ni nn k1 k2 ht hp
          · rw [if_pos (show withinS ⟨true, op, mi, mn, pi, pn, oth, k, ((u.drop k).map (·.l)), c⟩ (pin f d) from ⟨zA hp, zA ht⟩)]
            by_cases hn : f.n = ((c : Nat) : Int) + 1
            · rw [show cameS ⟨true, op, mi, mn, pi, pn, oth, k, ((u.drop k).map (·.l)), c⟩ (pin f d) = _ from if_pos hn]
              exact JH w r B id op mi mn pi pn oth so sc u k c h h1 (by omega) (by omega) f d ni nn HF (fun ad ha h0 hm => hne ad ha h0 (by cases List.mem_singleton.1 hm; exact List.mem_cons_self)) hl k1 k2 ht hp hn
            · rw [show cameS ⟨true, op, mi, mn, pi, pn, oth, k, ((u.drop k).map (·.l)), c⟩ (pin f d) = _ from if_neg hn]
              exact Jd w r B id op mi mn pi pn oth so sc u k c h h1 (by omega) (by omega) f ni nn k1 k2 ht hp hn
      · by_cases k3 : f.kind = 3
        · rw [show hearS id ⟨true, op, mi, mn, pi, pn, oth, k, ((u.drop k).map (·.l)), c⟩ (pin f d) ni nn = (if withinS ⟨true, op, mi, mn, pi, pn, oth, k, ((u.drop k).map (·.l)), c⟩ (pin f d) then (ackS ⟨true, true, mi, mn, pi, pn, oth, k, ((u.drop k).map (·.l)), c⟩ (pin f d).n, (⟨false, !op, [], false, []⟩ : PT)) else (⟨true, op, mi, mn, pi, pn, oth, k, ((u.drop k).map (·.l)), c⟩, PT.no)) from (if_pos rfl).trans ((if_neg k1).trans ((if_neg k2).trans (if_pos k3)))]
          cases ht : (decide (f.ti = mi) && decide (f.tn = mn))
          · rw [if_neg (show ¬ withinS ⟨true, op, mi, mn, pi, pn, oth, k, ((u.drop k).map (·.l)), c⟩ (pin f d) from fun hw => zU ht hw.2)]
            exact rno_3_0 w r B id op mi mn pi pn oth so sc u k c h h1 f ni nn k1 k2 k3 ht
          · cases hp : (decide (f.fi = pi) && decide (f.fn = pn))
            · rw [if_neg (show ¬ withinS ⟨true, op, mi, mn, pi, pn, oth, k, ((u.drop k).map (·.l)), c⟩ (pin f d) from fun hw => zU hp hw.1)]
              exact rno_3_1 w r B id op mi mn pi pn oth so sc u k c h h1 f ni nn k1 k2 k3 ht hp
            · rw [if_pos (show withinS ⟨true, op, mi, mn, pi, pn, oth, k, ((u.drop k).map (·.l)), c⟩ (pin f d) from ⟨zA hp, zA ht⟩)]
              have e : k + ((u.drop k).map (·.l)).length = u.length := hu.symm
              by_cases n1 : ((k : Nat) : Int) < f.n
              · by_cases n2 : f.n ≤ ((u.length : Nat) : Int)
                · obtain ⟨m, hm⟩ : ∃ m : Nat, f.n = ((k + m : Nat) : Int) := ⟨f.n.toNat - k, by omega⟩
                  rw [show ackS ⟨true, true, mi, mn, pi, pn, oth, k, ((u.drop k).map (·.l)), c⟩ (pin f d).n = ⟨true, true, mi, mn, pi, pn, oth, f.n.toNat, (((u.drop k).map (·.l)).drop (f.n.toNat - k)), c⟩ from if_pos ⟨n1, by show f.n ≤ ((k + ((u.drop k).map (·.l)).length : Nat) : Int); rw [e]; exact n2⟩]
                  have e1 : f.n.toNat = k + m := by omega
                  have e2 : k + m - k = m := by omega
                  rw [e1, e2]
                  exact rack_ok w r B id op mi mn pi pn oth so sc u k c h h1 (by omega) (by omega) f ni nn k1 k2 k3 ht hp m (by omega) (by omega) hm
                · rw [show ackS ⟨true, true, mi, mn, pi, pn, oth, k, ((u.drop k).map (·.l)), c⟩ (pin f d).n = ⟨true, true, mi, mn, pi, pn, oth, k, ((u.drop k).map (·.l)), c⟩ from if_neg fun h => n2 (by have h2 : f.n ≤ ((k + ((u.drop k).map (·.l)).length : Nat) : Int) := h.2; rw [e] at h2; exact h2)]
                  exact Zy w r B id op mi mn pi pn oth so sc u k c h h1 (by omega) (by omega) f ni nn k1 k2 k3 ht hp (by omega)
              · rw [show ackS ⟨true, true, mi, mn, pi, pn, oth, k, ((u.drop k).map (·.l)), c⟩ (pin f d).n = ⟨true, true, mi, mn, pi, pn, oth, k, ((u.drop k).map (·.l)), c⟩ from if_neg fun h => n1 h.1]
                exact Yf w r B id op mi mn pi pn oth so sc u k c h h1 (by omega) (by omega) f ni nn k1 k2 k3 ht hp (by omega)
        · rw [show hearS id ⟨true, op, mi, mn, pi, pn, oth, k, ((u.drop k).map (·.l)), c⟩ (pin f d) ni nn = (⟨true, op, mi, mn, pi, pn, oth, k, ((u.drop k).map (·.l)), c⟩, PT.no) from (if_pos rfl).trans ((if_neg k1).trans ((if_neg k2).trans (if_neg k3)))]
          exact Jb w r B id op mi mn pi pn oth so sc u k c h h1 f ni nn k1 k2 k3
end
def SendD (w : World) (r : Nat) (id : Nat → Nat) (mu tb : List Nat) (z : ES × PF × Int) (e : Ending) (w' : World) : Prop := ∃ (f : Fr) (mu' tb' : List Nat), e = .returned (.tuple #[.agg (frA f), iK z.2.2]) ∧ FV w' z.2.1 f ∧ DX w' r id z.1 mu' tb' ∧ GroS mu w w' ∧ Fresh w mu mu' ∧ Fresh w tb tb'
theorem Fresh.rrow {w : World} {r : Nat} {so so2 : Option Addr} (h : Kept w.heap.size so so2) : Fresh w (r :: blk so) (r :: blk so2) := fun k hk => by
  rcases List.mem_cons.1 hk with rfl | hk
  · exact .inl List.mem_cons_self
  · exact (h k hk).imp (fun h => List.mem_cons_of_mem _ h) fun h => h
theorem rsend_x (w : World) (r : Nat) (id : Nat → Nat) (x : ES) (mu tb : List Nat) (H : DX w r id x mu tb) (hk : x.k + x.q.length ≤ 100000) (hc : x.c ≤ 100000) (ao : Option Addr) (cap : Nat) (l : List Nat) (HB : NC w .u8 ao cap l) (hne : ∀ ad, ao = some ad → 0 < l.length → ad.block ∉ mu) : Calls Try.prog 17 #[pK r 0, .slice ao l.length cap] w (SendD w r id mu tb (sendS x l)) := by
  obtain ⟨B, so, sc, u, h, h1, h2, rfl, rfl⟩ := H
  have hu := yq h2 h1
  obtain ⟨up, op, mi, mn, pi, pn, oth, k, xq, c⟩ := x
  simp only at h h1 h2 hk hc hu
  subst h2
  cases op
  · exact (JB w r B id up mi mn pi pn oth so sc u k c h ao cap l).mono fun e w' ⟨he, G⟩ => ⟨pfr PF.zero Sl.nil Sl.nil Sl.nil Sl.nil, _, _, he, FV.zero _, ⟨B, so, sc, u, h.gro G, h1, rfl, rfl, rfl⟩, GroS.of G, Fresh.refl _ _, Fresh.refl _ _⟩
  · by_cases hl : 4096 < l.length
    · rw [show sendS ⟨up, true, mi, mn, pi, pn, oth, k, ((u.drop k).map (·.l)), c⟩ l = (⟨up, true, mi, mn, pi, pn, oth, k, ((u.drop k).map (·.l)), c⟩, PF.zero, 4) from (if_pos rfl).trans (if_pos hl)]
      exact (JC w r B id up mi mn pi pn oth so sc u k c h ao cap l hl).mono fun e w' ⟨he, G⟩ => ⟨pfr PF.zero Sl.nil Sl.nil Sl.nil Sl.nil, _, _, he, FV.zero _, ⟨B, so, sc, u, h.gro G, h1, rfl, rfl, rfl⟩, GroS.of G, Fresh.refl _ _, Fresh.refl _ _⟩
    · rw [show sendS ⟨up, true, mi, mn, pi, pn, oth, k, ((u.drop k).map (·.l)), c⟩ l = (⟨up, true, mi, mn, pi, pn, oth, k, ((u.drop k).map (·.l) ++ [l]), c⟩, ⟨2, zF, mi, mn, pi, pn, ((k + (((u.drop k).map (·.l)).length + 1) : Nat) : Int), l⟩, 0) from (if_pos rfl).trans (if_neg hl)]
      refine (Ya w r B id up mi mn pi pn oth so sc u k c h h1 (by omega) hc ao cap l HB hne (by omega)).mono fun e w' ⟨ao2, cap2, y, ao3, cap3, he, hob, hy, G, h3, h4, h5⟩ => ⟨pfr ⟨2, zF, mi, mn, pi, pn, ((k + (((u.drop k).map (·.l)).length + 1) : Nat) : Int), l⟩ Sl.nil Sl.nil Sl.nil ⟨ao3, l.length, cap3⟩, _, _, ?_, JS hob, ⟨B, ao2, cap2, u ++ [y], h3, by show k ≤ _; rw [List.length_append]; omega, ?_, rfl, rfl⟩, G, Fresh.rrow h5, Fresh.app h4⟩
      · rw [he, show (u ++ [y]).length = k + (((u.drop k).map (·.l)).length + 1) by rw [List.length_append, hu]; simp; omega]
        rfl
      · simp only
        rw [List.drop_append_of_le_length h1, List.map_append]
        simp [hy]
theorem Zb (w : World) (m : PF) (f g : Fr) (HF : FV w m f) (HG : FV w m g) : Calls Try.prog 18 #[.agg (frA f), .agg (frA g)] w fun e w' => e = .returned (vTr) ∧ Gro w w' := by
  have h := same_d f g (pfd m) (pfd m) w HF.frw HG.frw ⟨Nat.zero_le _, Nat.zero_le _⟩
  have e : sameK f g (pfd m) (pfd m) = true := by
    obtain ⟨_, _, _, _, _, rfl, _⟩ := HF.eq
    obtain ⟨_, _, _, _, _, rfl, _⟩ := HG.eq
    simp [sameK, sameB, pfr]
  rw [e] at h
  exact h
end Go.Proofs.Ytlfanecaglbomaa
