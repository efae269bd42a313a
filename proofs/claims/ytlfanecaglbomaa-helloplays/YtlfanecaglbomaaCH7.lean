/- The program's end: Tick; each call, told of the end alone. -/
import Derived.Test.YtlfanecaglbomaaCH6
namespace Go.Proofs.Ytlfanecaglbomaa
set_option maxRecDepth 100000
set_option maxHeartbeats 4000000
open Go.RowKit
theorem JY (fs : List (PF × Fr)) (j : Nat) (x : PF × Fr) (h : fs[j]? = some x) : (((cellsF fs).drop (j * 95)).take 95).toArray = frA x.2 := by
  apply Array.toList_inj.1
  apply List.ext_getElem?
  intro i
  rw [List.getElem?_take]
  by_cases hi : i < 95
  · rw [if_pos hi, List.getElem?_drop]
    exact ZJ fs j x h i _ (List.getElem?_eq_getElem (by rw [zR]; exact hi)) |>.trans (List.getElem?_eq_getElem _).symm
  · rw [if_neg hi, List.getElem?_eq_none (by rw [zR]; omega)]
theorem LF.some {w : World} {B : Nat} {ao : Option Addr} {cap : Nat} {fs : List (PF × Fr)} (H : LF w B ao cap fs) (h : 0 < fs.length) : ∃ ad, ao = some ad := H.row.xc.some h
theorem yO {o : Oper} {A : Act} {B cap : Nat} {fs : List (PF × Fr)} (x : Operand) (ho : o.op = .load 46 x) (ad : Addr) (j : Nat) (hx : A.eval x = .pointer (some (ad.add (j * 95)))) (w : World) (H : LF w B (some ad) cap fs) (y : PF × Fr) (hy : fs[j]? = some y) : (execOp A.eval o).run Try.prog w = .ok (.value (.agg (frA y.2))) w :=
  yN rF _ Try.underlying46 rfl x ho ad j hx w H.row.xc ((List.getElem?_eq_some_iff.1 hy).1) _ (JY fs j y hy)
theorem ye {o : Oper} {A : Act} (x y : Operand) (ho : o.op = .indexAddr 50 x y) (ad : Addr) (n cap j : Nat) (hx : A.eval x = .slice (some ad) n cap) (hy : A.eval y = iK (j : Int)) (hj : j < n) (w : World) : (execOp A.eval o).run Try.prog w = .ok (.value (.pointer (some (ad.add (j * 95))))) w := yo rF x y ho ad n cap j hx hy hj w
section
variable {ops : Array Oper} {rest : List Oper} {o : Oper} {T : List Value} {ds : List Deferred} {w : World} {Q : Exit → Act → World → Prop}
theorem YZ (dst : Nat) (hd : o.dst = some dst) (hgd : o.guard = none) (x y : Operand) (ho : o.op = .makeSlice 50 x y) (n : Nat) (hx : (⟨T.toArray, ds⟩ : Act).eval x = iK (n : Int)) (hy : (⟨T.toArray, ds⟩ : Act).eval y = iK (n : Int)) (hb : n ≤ 100000)
    (h : ∀ w' g cur, Gro w w' → w.heap.size = g → w'.heap[g]? = some (.cells cur 46 (0, 0)) → cur.size = n * 95 → wpList Try.prog ops Q rest ⟨(T.set dst (.slice (some ⟨g, 0, none⟩) n n)).toArray, ds⟩ w') : wpList Try.prog ops Q (o :: rest) ⟨T.toArray, ds⟩ w := by
  obtain ⟨i, hi, hz, hsz, hby⟩ := rF.info
  refine wpList_make_full w hgd x y 50 ho w.heap.size 46 i _ 95 rF.und hi hz hsz .i64 .i64 _ _ n hx hy rfl rfl (by rw [hby]; omega) (by simp only [maxLen]; omega) (Nat.le_refl _) ?_
  intro w' h1 h2
  rw [hd, zd]
  rcases h1.2 with ⟨h3, _⟩ | ⟨g, c, cur, h3, _, h4, _, _, h5, h6⟩
  · cases h3
  · injection h3 with e1 e2 e3
    injection e1 with e1
    injection e1 with e1
    subst e1 e3
    exact h w' _ cur ⟨h2.os, h2.tape, h2.output, h2.size, fun k hk => h2.block k hk (by simp)⟩ rfl h4 h5
end
theorem ZT (cur : Array Value) (n j : Nat) (f : Fr) (hs : cur.size = n * 95) (hj : j < n) {fs : List (PF × Fr)} (hf : fs.length = j) (ht : cur.toList.take (j * 95) = cellsF fs) (m : PF) :
    (splice cur (j * 95) (frA f)).size = n * 95 ∧ (splice cur (j * 95) (frA f)).toList.take ((j + 1) * 95) = cellsF (fs ++ [(m, f)]) := by
  have hl := zR f
  have hl2 : (frA f).size = 95 := by simpa using hl
  have e : (splice cur (j * 95) (frA f)).toList = cur.toList.take (j * 95) ++ (frA f).toList ++ cur.toList.drop (j * 95 + (frA f).size) := by simp [splice]
  constructor
  · have := congrArg List.length e
    simp at this
    rw [this, hl2, hs]
    omega
  · rw [e, ht, vM]
    have e2 : cellsF [(m, f)] = (frA f).toList := by simp [cellsF]
    rw [e2]
    apply List.take_left'
    rw [List.length_append, yK, hl, hf]
    omega
theorem vt (x : ES) (a b : List (List Nat)) : ∀ n, ticksF x n (a ++ b) = ticksF x n a ++ ticksF x (n + a.length) b := by
  induction a with
  | nil => intro n; rfl
  | cons y r ih =>
    intro n
    have e : n + 1 + r.length = n + (r.length + 1) := by omega
    simp only [List.cons_append, ticksF, ih, List.length_cons, e]
def ListP (w : World) (p : Nat) (id : Nat → Nat) (mu tb : List Nat) (r : ES × List PF) (e : Ending) (w' : World) : Prop := ∃ (ao : Option Addr) (cap : Nat) (fs : List (PF × Fr)) (mu' tb' : List Nat), e = .returned (.slice ao fs.length cap) ∧ fs.map (·.1) = r.2 ∧ LF w' 0 ao cap fs ∧ EX w' p id r.1 mu' tb' ∧ GroS mu w w' ∧ Fresh w mu mu' ∧ Fresh w tb tb'
theorem LF.mono {w : World} {B B' : Nat} {ao : Option Addr} {cap : Nat} {fs : List (PF × Fr)} (h : LF w B ao cap fs) (hB : B' ≤ B) : LF w B' ao cap fs := ⟨⟨h.row.len, h.row.row.imp (fun h => h) fun ⟨g, d, cur, h1, h2, h3⟩ => ⟨g, d, cur, h1, Nat.le_trans hB h2, h3⟩, h.row.one⟩, h.fv⟩
theorem Zr (w : World) (p wp B : Nat) (id : Nat → Nat) (op : Bool) (mi mn pi pn : Int) (oth : Nat → Nat) (ro : Option Addr) (rc : Nat) (q : List RV) (k c : Nat) (H : EW w p wp B id false op mi mn pi pn oth ro rc q k c) : Calls Try.prog 14 #[pK p 0] w (ListP w p id (p :: wp :: blk ro) (txb q) (⟨false, op, mi, mn, pi, pn, oth, k, (q.map (·.l)), c⟩, [])) := by
  refine jp Try.func14 rfl Try.ntmps14 [pK p 0] ?_
  intro U h; simp only [List.length_cons, List.length_nil, List.cons_append, List.nil_append, Nat.reduceAdd, Nat.reduceSub, List.reduceReplicate] at h; subst h
  have GG := Gro.refl w
  have kp := H.box
  have HW := H.win
  have hpl := ju kp
  refine wp_seq (wp_region_lit (mv 2 (.slice none 0 0) (wpList_nil (jc (wp_seq (wp_seq (wp_region_lit (mv 8 (pK p 0) ?_))))))))
  refine jz 9 rfl rfl _ 28 Try.call28 rfl rfl _ rfl [pK p 0] rfl (yi _ p wp B id false op mi mn pi pn oth ro rc q k c ⟨kp, HW⟩) ?_
  intro w1 G
  replace kp := G.has kp
  replace HW := HW.gro G
  replace GG := GG.trans G
  clear G
  refine sv 10 (vTr) (jE _ _ rfl false rfl) (wpList_nil (jc (wp_cond_true rfl (wp_seq (wp_region_lit (mv 2 (.slice none 0 0) (wpList_nil (jc (wp_ret (jC ?_))))))))))
  refine bodyPost_ret (results_tmp Try.results14 _ _ _) rfl ?_
  exact ⟨none, 0, [], (p :: wp :: blk ro), (txb q), rfl, rfl, LF.nil _ _, ⟨wp, B, ro, rc, q, ⟨kp, HW⟩, rfl, rfl, rfl⟩, GroS.of GG, Fresh.refl _ _, Fresh.refl _ _⟩
theorem Zp (w : World) (p wp B : Nat) (id : Nat → Nat) (mi mn pi pn : Int) (oth : Nat → Nat) (ro : Option Addr) (rc : Nat) (q : List RV) (k c : Nat) (H : EW w p wp B id true false mi mn pi pn oth ro rc q k c) : Calls Try.prog 14 #[pK p 0] w (ListP w p id (p :: wp :: blk ro) (txb q) (⟨true, false, mi, mn, pi, pn, oth, k, (q.map (·.l)), c⟩, [⟨1, id, mi, mn, pi, pn, 0, []⟩])) := by
  refine jp Try.func14 rfl Try.ntmps14 [pK p 0] ?_
  intro U h; simp only [List.length_cons, List.length_nil, List.cons_append, List.nil_append, Nat.reduceAdd, Nat.reduceSub, List.reduceReplicate] at h; subst h
  have GG := Gro.refl w
  have kp := H.box
  have HW := H.win
  have hpl := ju kp
  refine wp_seq (wp_region_lit (mv 2 (.slice none 0 0) (wpList_nil (jc (wp_seq (wp_seq (wp_region_lit (mv 8 (pK p 0) ?_))))))))
  refine jz 9 rfl rfl _ 28 Try.call28 rfl rfl _ rfl [pK p 0] rfl (yi _ p wp B id true false mi mn pi pn oth ro rc q k c ⟨kp, HW⟩) ?_
  intro w1 G
  replace kp := G.has kp
  replace HW := HW.gro G
  replace GG := GG.trans G
  clear G
  refine sv 10 (vFa) (jE _ _ rfl true rfl) (wpList_nil (jc (wp_cond_false rfl (wp_skip (jc (wp_seq (wp_seq (wp_region_lit (mv 11 (pK p 0) (sv 12 (pK p 0) (jj _ rfl _ rfl) (sv 13 (pK p 17) (jd 98 _ 2 rfl _ _ rfl _) (sv 14 (vFa) (jh 4 _ rfl p 17 rfl 98 _ kp (na4 _) _ rfl) ?_))))))))))))
  refine sv 15 (vTr) (jE _ _ rfl false rfl) ?_
  refine nr ?_; intro U h; simp only [z0, z1] at h; subst h
  refine wpList_nil (jc (wp_cond_true rfl (wp_seq (wp_region_lit (mv 16 (pK p 0) ?_)))))
  refine jD 17 rfl rfl _ 35 Try.call35 rfl rfl _ rfl [pK p 0] rfl (zt _ p wp B id true false mi mn pi pn oth ro rc q k c ⟨kp, HW⟩) (fun _ _ ⟨_, _, _, _, _, he, _⟩ => ⟨_, he⟩) ?_
  rintro v w2 ⟨s1g, s2g, s3g, aog, capg, he, HVg, G⟩
  cases he
  replace kp := G.has kp
  replace HW := HW.gro G
  replace GG := GG.trans G
  clear G
  refine zk 18 rfl rfl 50 1 _ rfl [(0, .agg (c46 1 zF 0 false id zF 0 mi mn pi pn s1g s2g zF 0 zF s3g 0 0 ⟨aog, 0, capg⟩))] rfl (c46 1 zF 0 false id zF 0 mi mn pi pn s1g s2g zF 0 zF s3g 0 0 ⟨aog, 0, capg⟩) 46 (by kernel_rfl) ?_
  intro w3 g1 G eg1 kg1
  have bg1 := jm GG eg1
  have dpg1 := je kp eg1
  replace kp := G.has kp
  replace HW := HW.gro G
  replace HVg := HVg.gro G
  replace GG := GG.trans G
  clear G eg1
  refine mv 2 (.slice (some ⟨g1, 0, none⟩) 1 1) (wpList_nil (jc (wp_ret (jC ?_))))
  refine bodyPost_ret (results_tmp Try.results14 _ _ _) rfl ?_
  exact ⟨_, _, [(⟨1, id, mi, mn, pi, pn, 0, []⟩, pfr ⟨1, id, mi, mn, pi, pn, 0, []⟩ s1g s2g s3g ⟨aog, 0, capg⟩)], (p :: wp :: blk ro), (txb q), rfl, rfl, LF.one kg1 (Nat.zero_le _) HVg, ⟨wp, B, ro, rc, q, ⟨kp, HW⟩, rfl, rfl, rfl⟩, GroS.of GG, Fresh.refl _ _, Fresh.refl _ _⟩
theorem AL.stF {w w' : World} {M g : Nat} {r : List (Nat × List Nat)} (h : AL w M g r) {gm : Nat} {c : Array Value} {o : Obj} (hg : w.heap[gm]? = some (.cells c 46 (0, 0))) (St : Stored w w' gm o) : AL w' M g r :=
  ⟨h.base, St.has (jJ h.row hg (by decide)) h.row, fun x hx => ⟨(h.fr x hx).1, St.has (jJ (h.fr x hx).2.1 hg (by decide)) (h.fr x hx).2.1, (h.fr x hx).2.2⟩⟩
theorem Zq (w : World) (p wp B : Nat) (id : Nat → Nat) (mi mn pi pn : Int) (oth : Nat → Nat) (ro : Option Addr) (rc : Nat) (q : List RV) (k c : Nat) (H : EW w p wp B id true true mi mn pi pn oth ro rc q k c) (hk : k + q.length ≤ 100000) (hc : c ≤ 100000) : Calls Try.prog 14 #[pK p 0] w (ListP w p id (p :: wp :: blk ro) (txb q) (⟨true, true, mi, mn, pi, pn, oth, k, (q.map (·.l)), c⟩, ticksF ⟨true, true, mi, mn, pi, pn, oth, k, (q.map (·.l)), c⟩ (k + 1) (q.map (·.l)))) := by
  refine jp Try.func14 rfl Try.ntmps14 [pK p 0] ?_
  intro U h; simp only [List.length_cons, List.length_nil, List.cons_append, List.nil_append, Nat.reduceAdd, Nat.reduceSub, List.reduceReplicate] at h; subst h
  have GG := Gro.refl w
  have kp := H.box
  have HW := H.win
  have hpl := ju kp
  have hsm : ∀ l ∈ q.map (·.l), l.length ≤ 140737488355000 := fun l hl => by obtain ⟨y, hy, rfl⟩ := List.mem_map.1 hl; exact H.win.sm y hy
  refine wp_seq (wp_region_lit (mv 2 (.slice none 0 0) (wpList_nil (jc (wp_seq (wp_seq (wp_region_lit (mv 8 (pK p 0) ?_))))))))
  refine jz 9 rfl rfl _ 28 Try.call28 rfl rfl _ rfl [pK p 0] rfl (yi _ p wp B id true true mi mn pi pn oth ro rc q k c ⟨kp, HW⟩) ?_
  intro w1 G
  replace kp := G.has kp
  replace HW := HW.gro G
  replace GG := GG.trans G
  clear G
  refine sv 10 (vFa) (jE _ _ rfl true rfl) (wpList_nil (jc (wp_cond_false rfl (wp_skip (jc (wp_seq (wp_seq (wp_region_lit (mv 11 (pK p 0) (sv 12 (pK p 0) (jj _ rfl _ rfl) (sv 13 (pK p 17) (jd 98 _ 2 rfl _ _ rfl _) (sv 14 (vTr) (jh 4 _ rfl p 17 rfl 98 _ kp (na4 _) _ rfl) ?_))))))))))))
  refine sv 15 (vFa) (jE _ _ rfl true rfl) ?_
  refine nr ?_; intro U h; simp only [z0, z1] at h; subst h
  refine wpList_nil (jc (wp_cond_false rfl (wp_skip (jc (wp_seq (wp_region_lit (mv 20 (pK p 0) (sv 21 (pK p 0) (jj _ rfl _ rfl) (sv 22 (pK p 38) (jd 98 _ 6 rfl _ _ rfl _) (sv 23 (pK wp 0) (jh 95 _ rfl p 38 rfl 98 _ kp (na95 _) _ rfl) ?_))))))))))
  refine nr ?_; intro U h; simp only [z0, z1] at h; subst h
  obtain ⟨MM, hMM⟩ : ∃ M, w1.heap.size = M := ⟨_, rfl⟩
  refine jD 24 rfl rfl _ 37 Try.call37 rfl rfl _ rfl [pK wp 0] rfl (vV _ wp B ro rc q k c HW hk hc) (fun _ _ ⟨_, _, he, _⟩ => ⟨_, he⟩) ?_
  rintro v w2 ⟨gr, r, he, G, hr, HA⟩
  cases he
  replace kp := G.has kp
  replace HW := HW.gro G
  replace GG := GG.trans G
  clear G
  have hrl : r.length = q.length := by simpa using congrArg List.length hr
  refine nr ?_; intro U h; simp only [z0, z1] at h; subst h
  rw [hMM] at HA
  refine mv 19 (.tuple #[iK ((k + 1 : Nat) : Int), .slice (some ⟨gr, 0, none⟩) r.length r.length]) (mv 25 (iK ((k + 1 : Nat) : Int)) (mv 26 (.slice (some ⟨gr, 0, none⟩) r.length r.length) (mv 3 (iK ((k + 1 : Nat) : Int)) (mv 4 (.slice (some ⟨gr, 0, none⟩) r.length r.length) ?_))))
  refine wpList_nil (jc (wp_seq (wp_region_lit (mv 27 (.slice (some ⟨gr, 0, none⟩) r.length r.length) (sv 28 (iK ((r.length : Nat) : Int)) (jM Try.underlying30 _ rfl _ _ _ rfl _) ?_)))))
  refine nr ?_; intro U h; simp only [z0, z1] at h; subst h
  refine YZ 29 rfl rfl _ _ rfl r.length rfl rfl (by omega) ?_
  intro w3 gm cur G egm kgm hcs
  have bgm := jm GG egm
  clear egm
  replace kp := G.has kp
  replace HW := HW.gro G
  replace HA := HA.gro G
  replace GG := GG.trans G
  clear G
  refine mv 5 (.slice (some ⟨gm, 0, none⟩) r.length r.length) (wpList_nil (jc (wp_seq (wp_seq (wp_region_lit (mv 30 (.slice (some ⟨gr, 0, none⟩) r.length r.length) (sv 31 (iK ((r.length : Nat) : Int)) (jM Try.underlying30 _ rfl _ _ _ rfl _) (mv 32 (iK 0) (wpList_nil (jc (wp_block ?_)))))))))))
  refine zB (fun mz az wv => ∃ (j : Nat) (fs : List (PF × Fr)) (cu : Array Value) (us1 : Nat → Value), mz = r.length - j ∧ az = ⟨[pK p 0, undef, .slice none 0 0, iK ((k + 1 : Nat) : Int), .slice (some ⟨gr, 0, none⟩) r.length r.length, .slice (some ⟨gm, 0, none⟩) r.length r.length, us1 0, us1 1, pK p 0, vTr, vFa, pK p 0, pK p 0, pK p 17, vTr, vFa, undef, undef, undef, .tuple #[iK ((k + 1 : Nat) : Int), .slice (some ⟨gr, 0, none⟩) r.length r.length], pK p 0, pK p 0, pK p 38, pK wp 0, .tuple #[iK ((k + 1 : Nat) : Int), .slice (some ⟨gr, 0, none⟩) r.length r.length], iK ((k + 1 : Nat) : Int), .slice (some ⟨gr, 0, none⟩) r.length r.length, .slice (some ⟨gr, 0, none⟩) r.length r.length, iK ((r.length : Nat) : Int), .slice (some ⟨gm, 0, none⟩) r.length r.length, .slice (some ⟨gr, 0, none⟩) r.length r.length, iK ((r.length : Nat) : Int), iK ((j : Nat) : Int), us1 2, us1 3, us1 4, us1 5, us1 6, us1 7, us1 8, us1 9, us1 10, us1 11, us1 12, us1 13, us1 14, us1 15, undef].toArray, []⟩ ∧ j ≤ r.length ∧ fs.length = j ∧ fs.map (·.1) = ticksF ⟨true, true, mi, mn, pi, pn, oth, k, (q.map (·.l)), c⟩ (k + 1) ((r.map (·.2)).take j) ∧ cu.size = r.length * 95 ∧ cu.toList.take (j * 95) = cellsF fs ∧ Gro w wv ∧ wv.heap[gm]? = some (.cells cu 46 (0, 0)) ∧ (∀ x ∈ fs, FV wv x.1 x.2) ∧ wv.heap[p]? = some (.cells (c98 id true true mi mn pi pn oth (some ⟨wp, 0, none⟩)) 98 (0, 0)) ∧ WX 121 (c121 ((k + q.length : Nat) : Int) ⟨ro, q.length, rc⟩ ((c : Nat) : Int)) wv wp B ro rc q ∧ AL wv MM gr r) ?_ _ ⟨0, [], cur, usB [6, 7, 33, 34, 35, 36, 37, 38, 39, 40, 41, 42, 43, 44, 45, 46] rfl rfl ⟨Nat.zero_le _, rfl, rfl, hcs, (by simp [cellsF]), GG, kgm, (fun x hx => by cases hx), kp, HW, HA⟩⟩
  clear kp kgm GG HW HA
  rintro mz az wv ⟨j, fs, cu, us1, rfl, rfl, hj, hfs, hft, hcs, htk, GG, kgm, HV, kp, HW, HA⟩
  refine wp_seq (wp_region_lit ?_)
  obtain ⟨p1, hp1⟩ : ∃ p, decide (((j : Nat) : Int) < ((r.length : Nat) : Int)) = p := ⟨_, rfl⟩
  refine sv 33 (.bool p1) (jQ 3 _ _ _ rfl ((j : Nat) : Int) ((r.length : Nat) : Int) rfl rfl p1 hp1 _) ?_
  refine nr ?_; intro U h; simp only [z0, z1] at h; subst h
  cases p1
  have hjn : j = r.length := by have := of_decide_eq_false hp1; omega
  refine wpList_nil (jc (wp_seq (wp_cond_false rfl (wp_exit (zi (zi (yl (jc (wp_seq (wp_region_lit (mv 47 (.slice (some ⟨gm, 0, none⟩) r.length r.length) (mv 2 (.slice (some ⟨gm, 0, none⟩) r.length r.length) (wpList_nil (jc (wp_ret ?_)))))))))))))))
  refine bodyPost_ret (results_tmp Try.results14 _ _ _) rfl ?_
  subst hjn
  refine ⟨some ⟨gm, 0, none⟩, r.length, fs, (p :: wp :: blk ro), (txb q), ?_, ?_, ⟨⟨yK _, .inr ⟨gm, 0, cu, rfl, Nat.zero_le _, kgm, by omega, by simp only [maxLen]; omega, by omega, ?_⟩, vL _⟩, HV⟩, ⟨wp, B, ro, rc, q, ⟨kp, HW⟩, rfl, rfl, rfl⟩, GroS.of GG, Fresh.refl _ _, Fresh.refl _ _⟩
  rw [hfs]; rfl
  rw [hft, List.take_of_length_le (by simp), hr]
  rw [List.drop_zero, hfs]; exact htk
  have hjn : j < r.length := by have := of_decide_eq_true hp1; omega
  obtain ⟨y, hy⟩ : ∃ y, r[j]? = some y := ⟨_, List.getElem?_eq_getElem hjn⟩
  have hym := HA.fr y (List.mem_of_getElem? hy)
  refine wpList_nil (jc (wp_seq (wp_cond_true rfl (wp_skip (jc (wp_seq (wp_block (wp_seq (wp_region_lit (mv 34 (iK ((j : Nat) : Int)) (sv 35 (pK gr j) (uR _ _ rfl gr r.length r.length j rfl rfl hjn _) (sv 36 (.slice (some ⟨y.1, 0, none⟩) y.2.length y.2.length) (yn _ rfl _ rfl _ _ (HA.at hy)) (mv 6 (iK ((j : Nat) : Int)) (mv 7 (.slice (some ⟨y.1, 0, none⟩) y.2.length y.2.length) ?_))))))))))))))
  refine wpList_nil (jc (wp_region_lit (mv 37 (.slice (some ⟨gm, 0, none⟩) r.length r.length) (mv 38 (iK ((j : Nat) : Int)) ?_))))
  refine nr ?_; intro U h; simp only [z0, z1] at h; subst h
  refine mv 39 (pK p 0) (mv 40 (iK ((k + 1 : Nat) : Int)) (mv 41 (iK ((j : Nat) : Int)) (sv 42 (iK ((k + 1 + j : Nat) : Int)) (jZ 2 _ _ _ rfl ((k + 1 : Nat) : Int) ((j : Nat) : Int) ((k + 1 + j : Nat) : Int) rfl rfl (by omega) (by omega) (by omega) _) (mv 43 (.slice (some ⟨y.1, 0, none⟩) y.2.length y.2.length) ?_))))
  refine nr ?_; intro U h; simp only [z0, z1] at h; subst h
  have hyl : y.2.length ≤ 140737488355000 := hsm y.2 (by rw [← hr]; exact List.mem_map_of_mem (List.mem_of_getElem? hy))
  refine jD 44 rfl rfl _ 38 Try.call38 rfl rfl _ rfl [pK p 0, iK ((k + 1 + j : Nat) : Int), .slice (some ⟨y.1, 0, none⟩) y.2.length y.2.length] rfl (Jp _ p wp B id true true mi mn pi pn oth ro rc q k c ⟨kp, HW⟩ ((k + 1 + j : Nat) : Int) (some ⟨y.1, 0, none⟩) y.2.length y.2 (Ys hym.2.1 hym.2.2) hyl) (fun _ _ ⟨_, _, _, _, _, he, _⟩ => ⟨_, he⟩) ?_
  rintro v w4 ⟨s1g, s2g, s3g, aog, capg, he, HVg, G⟩
  cases he
  replace kp := G.has kp
  replace kgm := G.has kgm
  replace HW := HW.gro G
  replace HA := HA.gro G
  replace HV : ∀ x ∈ fs, FV _ x.1 x.2 := fun x hx => (HV x hx).gro G
  replace GG := GG.trans G
  clear G hym
  refine sv 45 (.pointer (some ⟨gm, j * 95, none⟩)) ((ye _ _ rfl ⟨gm, 0, none⟩ r.length r.length j rfl rfl hjn _).trans (by rw [zO, Nat.zero_add])) ?_
  refine nr ?_; intro U h; simp only [z0, z1] at h; subst h
  obtain ⟨hc2, ht2⟩ := ZT cu r.length j (pfr ⟨2, zF, mi, mn, pi, pn, ((k + 1 + j : Nat) : Int), y.2⟩ s1g s2g s3g ⟨aog, y.2.length, capg⟩) hcs hjn hfs htk ⟨2, zF, mi, mn, pi, pn, ((k + 1 + j : Nat) : Int), y.2⟩
  refine jn rfl rfl 46 _ _ rfl gm (j * 95) rfl (.agg (c46 2 zF 0 false zF zF ((k + 1 + j : Nat) : Int) mi mn pi pn s1g s2g zF 0 zF s3g 0 0 ⟨aog, y.2.length, capg⟩)) rfl 46 _ kgm (frA (pfr ⟨2, zF, mi, mn, pi, pn, ((k + 1 + j : Nat) : Int), y.2⟩ s1g s2g s3g ⟨aog, y.2.length, capg⟩)) rfl (by kernel_rfl) (by rw [show (frA (pfr ⟨2, zF, mi, mn, pi, pn, ((k + 1 + j : Nat) : Int), y.2⟩ s1g s2g s3g ⟨aog, y.2.length, capg⟩)).size = 95 from rfl, hcs]; omega) (by kernel_rfl) _ rfl ?_
  intro w5 St
  have n5 := jG kgm (by decide)
  have GS := (GroS.refl [gm] _).st St (.inr (by simp))
  replace kp := St.has (jJ kp kgm (by decide)) kp
  replace HW := HW.stT (by decide) (by decide) (by decide) kgm St
  replace HA := HA.stF kgm St
  replace HV : ∀ x ∈ fs, FV _ x.1 x.2 := fun x hx => (HV x hx).no5 GS n5
  replace HVg := HVg.no5 GS n5
  replace GG := GG.store St bgm
  have kg2 := St.new
  clear St kgm GS n5 htk
  refine wpList_nil (zh (jc (wp_region_lit (sv 46 (iK ((j + 1 : Nat) : Int)) (jZ 3 _ _ _ rfl ((j : Nat) : Int) 1 ((j + 1 : Nat) : Int) rfl rfl (by omega) (by omega) (by omega) _) (mv 32 (iK ((j + 1 : Nat) : Int)) (wpList_nil (jc ?_)))))))
  refine ⟨_, (by omega : r.length - (j + 1) < r.length - j), j + 1, fs ++ [(⟨2, zF, mi, mn, pi, pn, ((k + 1 + j : Nat) : Int), y.2⟩, pfr ⟨2, zF, mi, mn, pi, pn, ((k + 1 + j : Nat) : Int), y.2⟩ s1g s2g s3g ⟨aog, y.2.length, capg⟩)], _, usB [6, 7, 33, 34, 35, 36, 37, 38, 39, 40, 41, 42, 43, 44, 45, 46] rfl rfl ⟨hjn, (by simp [hfs]), ?_, hc2, ht2, GG, kg2, ?_, kp, HW, HA⟩⟩
  rw [List.map_append, hft, List.take_add_one, List.getElem?_map, hy]
  rw [show (Option.map (fun x : Nat × List Nat => x.2) (some y)).toList = [y.2] from rfl, vt]
  have e : (List.take j (List.map (fun x => x.2) r)).length = j := by rw [List.length_take, List.length_map]; omega
  rw [e]
  rfl
  intro x hx
  rcases List.mem_append.1 hx with hx | hx
  exact HV x hx
  cases List.mem_singleton.1 hx
  exact HVg
section
variable (w : World) (p : Nat) (id : Nat → Nat) (x : ES) (mu tb : List Nat)
theorem up_x (H : EX w p id x mu tb) : Calls Try.prog 28 #[pK p 0] w fun e w' => e = .returned (.bool x.up) ∧ Gro w w' := by
  obtain ⟨wp, B, ro, rc, q, h, _⟩ := H
  exact yi w p wp B id x.up x.op x.mi x.mn x.pi x.pn x.oth ro rc q x.k x.c h
theorem pair_x (H : EX w p id x mu tb) : Calls Try.prog 23 #[pK p 0] w fun e w' => e = .returned (.tuple #[.agg (c29 x.mi x.mn), .agg (c29 x.pi x.pn)]) ∧ Gro w w' := by
  obtain ⟨wp, B, ro, rc, q, h, _⟩ := H
  exact Yh w p wp B id x.up x.op x.mi x.mn x.pi x.pn x.oth ro rc q x.k x.c h
theorem JL (H : EX w p id x mu tb) : Calls Try.prog 24 #[pK p 0] w fun e w' => e = .returned (.tuple #[.agg (c23 (if x.op = true then x.oth else zF)), .bool x.op]) ∧ Gro w w' := by
  obtain ⟨wp, B, ro, rc, q, h, _⟩ := H
  obtain ⟨up, op, mi, mn, pi, pn, oth, k, xq, c⟩ := x
  cases op
  · exact ut w p wp B id up mi mn pi pn oth ro rc q k c h
  · exact yS w p wp B id up mi mn pi pn oth ro rc q k c h
theorem uK (H : EX w p id x mu tb) (hk : x.k + x.q.length ≤ 100000) (hc : x.c ≤ 100000) : Calls Try.prog 25 #[pK p 0] w fun e w' => ∃ g r M, e = .returned (.tuple #[iK ((x.k + 1 : Nat) : Int), .slice (some ⟨g, 0, none⟩) r.length r.length, iK ((x.c : Nat) : Int)]) ∧ Gro w w' ∧ r.map (·.2) = x.q ∧ AL w' M g r := by
  obtain ⟨wp, B, ro, rc, q, h, hq, _⟩ := H
  rw [← hq]
  rw [← hq, List.length_map] at hk
  exact vp w p wp B id x.up x.op x.mi x.mn x.pi x.pn x.oth ro rc q x.k x.c h hk hc
theorem vW (H : EX w p id x mu tb) (hk : x.k + x.q.length ≤ 100000) (hc : x.c ≤ 100000) : Calls Try.prog 27 #[pK p 0] w fun e w' => e = .returned (iK ((x.q.length : Nat) : Int)) ∧ Gro w w' := by
  obtain ⟨wp, B, ro, rc, q, h, hq, _⟩ := H
  rw [← hq, List.length_map] at hk ⊢
  exact uL w p wp B id x.up x.op x.mi x.mn x.pi x.pn x.oth ro rc q x.k x.c h hk hc
theorem tick_x (H : EX w p id x mu tb) (hk : x.k + x.q.length ≤ 100000) (hc : x.c ≤ 100000) : Calls Try.prog 14 #[pK p 0] w (ListP w p id mu tb (x, tickS id x)) := by
  obtain ⟨wp, B, ro, rc, q, h, hq, rfl, rfl⟩ := H
  obtain ⟨up, op, mi, mn, pi, pn, oth, k, xq, c⟩ := x
  simp only at h hq hk hc
  subst hq
  rw [List.length_map] at hk
  cases up
  · exact Zr w p wp B id op mi mn pi pn oth ro rc q k c h
  · cases op
    · exact Zp w p wp B id mi mn pi pn oth ro rc q k c h
    · exact Zq w p wp B id mi mn pi pn oth ro rc q k c h hk hc
theorem JE (H : EX w p id x mu tb) (ni nn : Int) : Calls Try.prog 10 #[pK p 0, .agg (c29 ni nn)] w (ListP w p id mu tb (riseS id x ni nn)) := by
  obtain ⟨wp, B, ro, rc, q, h, hq, rfl, rfl⟩ := H
  obtain ⟨up, op, mi, mn, pi, pn, oth, k, xq, c⟩ := x
  simp only at h hq
  subst hq
  cases up
  · exact (Zu w p wp B id op mi mn pi pn oth ro rc q k c h ni nn).mono fun e w' ⟨g, f, he, G, h1, h2⟩ => ⟨_, _, [(_, f)], _, _, he, rfl, h2.mono (Nat.zero_le _), ⟨wp, B, ro, rc, q, h1, rfl, rfl, rfl⟩, G.p1, Fresh.refl _ _, Fresh.refl _ _⟩
  · exact (rise_up w p wp B id op mi mn pi pn oth ro rc q k c h ni nn).mono fun e w' ⟨he, G⟩ => ⟨none, 0, [], _, _, he, rfl, LF.nil _ _, ⟨wp, B, ro, rc, q, h.gro G, rfl, rfl, rfl⟩, GroS.of G, Fresh.refl _ _, Fresh.refl _ _⟩
theorem fall_x (H : EX w p id x mu tb) : Calls Try.prog 12 #[pK p 0] w fun e w' => ∃ mu' tb', e = .returned (.bool x.op) ∧ EX w' p id ES.new mu' tb' ∧ GroS mu w w' ∧ Fresh w mu mu' ∧ Fresh w tb tb' := by
  obtain ⟨wp, B, ro, rc, q, h, hq, rfl, rfl⟩ := H
  obtain ⟨up, op, mi, mn, pi, pn, oth, k, xq, c⟩ := x
  cases op
  · exact (JU w p wp B id up mi mn pi pn oth ro rc q k c h).mono fun e w' ⟨he, G, wp2, B2, h1, h2⟩ => ⟨_, _, he, ⟨wp2, B2, none, 0, [], h2, rfl, rfl, rfl⟩, G.p1, Fresh.win h1, Fresh.nil0 _ _⟩
  · exact (ZI w p wp B id up mi mn pi pn oth ro rc q k c h).mono fun e w' ⟨he, G, wp2, B2, h1, h2⟩ => ⟨_, _, he, ⟨wp2, B2, none, 0, [], h2, rfl, rfl, rfl⟩, G.p1, Fresh.win h1, Fresh.nil0 _ _⟩
end
def PF.zero : PF := ⟨0, zF, 0, 0, 0, 0, 0, []⟩
def sendS (x : ES) (l : List Nat) : ES × PF × Int :=
  if x.op = true then (if 4096 < l.length then (x, PF.zero, 4) else ({ x with q := x.q ++ [l] }, dataF x ((x.k + (x.q.length + 1) : Nat) : Int) l, 0)) else (x, PF.zero, 10)
theorem FV.zero (w : World) : FV w PF.zero (pfr PF.zero Sl.nil Sl.nil Sl.nil Sl.nil) := ⟨Sl.nil, Sl.nil, Sl.nil, none, 0, rfl, NoR.nil, NoR.nil, NoR.nil, OB.nil _ _ _ _⟩
def SendX (w : World) (p : Nat) (id : Nat → Nat) (mu tb : List Nat) (r : ES × PF × Int) (e : Ending) (w' : World) : Prop := ∃ (f : Fr) (mu' tb' : List Nat), e = .returned (.tuple #[.agg (frA f), iK r.2.2]) ∧ FV w' r.2.1 f ∧ EX w' p id r.1 mu' tb' ∧ GroS mu w w' ∧ Fresh w mu mu' ∧ Fresh w tb tb'
theorem send_x (w : World) (p : Nat) (id : Nat → Nat) (x : ES) (mu tb : List Nat) (H : EX w p id x mu tb) (hk : x.k + x.q.length ≤ 100000) (hc : x.c ≤ 100000) (ao : Option Addr) (cap : Nat) (l : List Nat) (HB : NC w .u8 ao cap l) (hne : ∀ ad, ao = some ad → 0 < l.length → ad.block ∉ mu) : Calls Try.prog 16 #[pK p 0, .slice ao l.length cap] w (SendX w p id mu tb (sendS x l)) := by
  obtain ⟨wp, B, ro, rc, q, h, hq, rfl, rfl⟩ := H
  obtain ⟨up, op, mi, mn, pi, pn, oth, k, xq, c⟩ := x
  simp only at h hq hk hc
  subst hq
  rw [List.length_map] at hk
  cases op
  · exact (JN w p wp B id up mi mn pi pn oth ro rc q k c h ao cap l).mono fun e w' ⟨he, G⟩ => ⟨pfr PF.zero Sl.nil Sl.nil Sl.nil Sl.nil, _, _, he, FV.zero _, ⟨wp, B, ro, rc, q, h.gro G, rfl, rfl, rfl⟩, GroS.of G, Fresh.refl _ _, Fresh.refl _ _⟩
  · by_cases hl : 4096 < l.length
    · rw [show sendS ⟨up, true, mi, mn, pi, pn, oth, k, q.map (·.l), c⟩ l = (⟨up, true, mi, mn, pi, pn, oth, k, q.map (·.l), c⟩, PF.zero, 4) from (if_pos rfl).trans (if_pos hl)]
      exact (JO w p wp B id up mi mn pi pn oth ro rc q k c h ao cap l hl).mono fun e w' ⟨he, G⟩ => ⟨pfr PF.zero Sl.nil Sl.nil Sl.nil Sl.nil, _, _, he, FV.zero _, ⟨wp, B, ro, rc, q, h.gro G, rfl, rfl, rfl⟩, GroS.of G, Fresh.refl _ _, Fresh.refl _ _⟩
    · rw [show sendS ⟨up, true, mi, mn, pi, pn, oth, k, q.map (·.l), c⟩ l = (⟨up, true, mi, mn, pi, pn, oth, k, q.map (·.l) ++ [l], c⟩, ⟨2, zF, mi, mn, pi, pn, ((k + ((q.map (·.l)).length + 1) : Nat) : Int), l⟩, 0) from (if_pos rfl).trans (if_neg hl)]
      refine (Yy w p wp B id up mi mn pi pn oth ro rc q k c h hk hc ao cap l HB hne (by omega)).mono fun e w' ⟨ao2, cap2, y, f, he, hf, hy, G, h1, h2, h3⟩ => ⟨f, _, _, he, ?_, ⟨wp, B, ao2, cap2, q ++ [y], h1, by simp [hy], rfl, rfl⟩, G, Fresh.row h3, Fresh.app h2⟩
      have e1 : (q ++ [y]).length = (q.map (·.l)).length + 1 := by simp
      rw [e1] at hf
      exact hf
end Go.Proofs.Ytlfanecaglbomaa
