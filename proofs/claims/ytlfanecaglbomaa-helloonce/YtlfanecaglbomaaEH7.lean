/- The program's end: Tick; each call, told of the end alone. -/
import Derived.Test.YtlfanecaglbomaaEH6
namespace Go.Proofs.Ytlfanecaglbomaa
set_option maxRecDepth 100000
set_option maxHeartbeats 4000000
open Go.RowKit
theorem JM (fs : List (PF × Fr)) (j : Nat) (x : PF × Fr) (h : fs[j]? = some x) : (((cellsF fs).drop (j * 95)).take 95).toArray = frA x.2 := by
  apply Array.toList_inj.1
  apply List.ext_getElem?
  intro i
  rw [List.getElem?_take]
  by_cases hi : i < 95
  · rw [if_pos hi, List.getElem?_drop]
    exact Zu fs j x h i _ (List.getElem?_eq_getElem (by rw [zD]; exact hi)) |>.trans (List.getElem?_eq_getElem _).symm
  · rw [if_neg hi, List.getElem?_eq_none (by rw [zD]; omega)]
theorem LF.some {w : World} {B : Nat} {ao : Option Addr} {cap : Nat} {fs : List (PF × Fr)} (H : LF w B ao cap fs) (h : 0 < fs.length) : ∃ ad, ao = some ad := H.row.xc.some h
theorem yl {o : Oper} {A : Act} {B cap : Nat} {fs : List (PF × Fr)} (x : Operand) (ho : o.op = .load 46 x) (ad : Addr) (j : Nat) (hx : A.eval x = .pointer (some (ad.add (j * 95)))) (w : World) (H : LF w B (some ad) cap fs) (y : PF × Fr) (hy : fs[j]? = some y) : (execOp A.eval o).run Try.prog w = .ok (.value (.agg (frA y.2))) w :=
  vK rF _ Try.underlying46 rfl x ho ad j hx w H.row.xc ((List.getElem?_eq_some_iff.1 hy).1) _ (JM fs j y hy)
theorem zO {o : Oper} {A : Act} (x y : Operand) (ho : o.op = .indexAddr 50 x y) (ad : Addr) (n cap j : Nat) (hx : A.eval x = .slice (some ad) n cap) (hy : A.eval y = iK (j : Int)) (hj : j < n) (w : World) : (execOp A.eval o).run Try.prog w = .ok (.value (.pointer (some (ad.add (j * 95))))) w := zI rF x y ho ad n cap j hx hy hj w
section
variable {ops : Array Oper} {rest : List Oper} {o : Oper} {T : List Value} {ds : List Deferred} {w : World} {Q : Exit → Act → World → Prop}
theorem YA (dst : Nat) (hd : o.dst = some dst) (hgd : o.guard = none) (x y : Operand) (ho : o.op = .makeSlice 50 x y) (n : Nat) (hx : (⟨T.toArray, ds⟩ : Act).eval x = iK (n : Int)) (hy : (⟨T.toArray, ds⟩ : Act).eval y = iK (n : Int)) (hb : n ≤ 100000)
    (h : ∀ w' g cur, Gro w w' → w.heap.size = g → w'.heap[g]? = some (.cells cur 46 (0, 0)) → cur.size = n * 95 → wpList Try.prog ops Q rest ⟨(T.set dst (.slice (some ⟨g, 0, none⟩) n n)).toArray, ds⟩ w') : wpList Try.prog ops Q (o :: rest) ⟨T.toArray, ds⟩ w := by
  obtain ⟨i, hi, hz, hsz, hby⟩ := rF.info
  refine wpList_make_full w hgd x y 50 ho w.heap.size 46 i _ 95 rF.und hi hz hsz .i64 .i64 _ _ n hx hy rfl rfl (by rw [hby]; omega) (by simp only [maxLen]; omega) (Nat.le_refl _) ?_
  intro w' h1 h2
  rw [hd, zg]
  rcases h1.2 with ⟨h3, _⟩ | ⟨g, c, cur, h3, _, h4, _, _, h5, h6⟩
  · cases h3
  · injection h3 with e1 e2 e3
    injection e1 with e1
    injection e1 with e1
    subst e1 e3
    exact h w' _ cur ⟨h2.os, h2.tape, h2.output, h2.size, fun k hk => h2.block k hk (by simp)⟩ rfl h4 h5
end
theorem ZB (cur : Array Value) (n j : Nat) (f : Fr) (hs : cur.size = n * 95) (hj : j < n) {fs : List (PF × Fr)} (hf : fs.length = j) (ht : cur.toList.take (j * 95) = cellsF fs) (m : PF) :
    (splice cur (j * 95) (frA f)).size = n * 95 ∧ (splice cur (j * 95) (frA f)).toList.take ((j + 1) * 95) = cellsF (fs ++ [(m, f)]) := by
  have hl := zD f
  have hl2 : (frA f).size = 95 := by simpa using hl
  have e : (splice cur (j * 95) (frA f)).toList = cur.toList.take (j * 95) ++ (frA f).toList ++ cur.toList.drop (j * 95 + (frA f).size) := by simp [splice]
  constructor
  · have := congrArg List.length e
    simp at this
    rw [this, hl2, hs]
    omega
  · rw [e, ht, zY]
    have e2 : cellsF [(m, f)] = (frA f).toList := by simp [cellsF]
    rw [e2]
    apply List.take_left'
    rw [List.length_append, yN, hl, hf]
    omega
theorem Jt (x : ES) (a b : List (List Nat)) : ∀ n, ticksF x n (a ++ b) = ticksF x n a ++ ticksF x (n + a.length) b := by
  induction a with
  | nil => intro n; rfl
  | cons y r ih =>
    intro n
    have e : n + 1 + r.length = n + (r.length + 1) := by omega
    simp only [List.cons_append, ticksF, ih, List.length_cons, e]
def ListP (w : World) (p : Nat) (id : Nat → Nat) (mu tb : List Nat) (r : ES × List PF) (e : Ending) (w' : World) : Prop := ∃ (ao : Option Addr) (cap : Nat) (fs : List (PF × Fr)) (mu' tb' : List Nat), e = .returned (.slice ao fs.length cap) ∧ fs.map (·.1) = r.2 ∧ LF w' 0 ao cap fs ∧ EX w' p id r.1 mu' tb' ∧ GroS mu w w' ∧ Fresh w mu mu' ∧ Fresh w tb tb'
theorem LF.mono {w : World} {B B' : Nat} {ao : Option Addr} {cap : Nat} {fs : List (PF × Fr)} (h : LF w B ao cap fs) (hB : B' ≤ B) : LF w B' ao cap fs := ⟨⟨h.row.len, h.row.row.imp (fun h => h) fun ⟨g, d, cur, h1, h2, h3⟩ => ⟨g, d, cur, h1, Nat.le_trans hB h2, h3⟩, h.row.one⟩, h.fv⟩
theorem Ze (w : World) (p wp B : Nat) (id : Nat → Nat) (op : Bool) (mi mn pi pn : Int) (oth : Nat → Nat) (ro : Option Addr) (rc : Nat) (q : List RV) (k c : Nat) (H : EW w p wp B id false op mi mn pi pn oth ro rc q k c) : Calls Try.prog 14 #[pK p 0] w (ListP w p id (p :: wp :: blk ro) (txb q) (⟨false, op, mi, mn, pi, pn, oth, k, (q.map (·.l)), c⟩, [])) := by
  refine jq Try.func14 rfl Try.ntmps14 [pK p 0] ?_
  intro U h; simp only [List.length_cons, List.length_nil, List.cons_append, List.nil_append, Nat.reduceAdd, Nat.reduceSub, List.reduceReplicate] at h; subst h
  have GG := Gro.refl w
  have kp := H.box
  have HW := H.win
  have hpl := jm kp
  refine wp_seq (wp_region_lit (mv 2 (.slice none 0 0) (wpList_nil (ja (wp_seq (wp_seq (wp_region_lit (mv 8 (pK p 0) ?_))))))))
  refine jC 9 rfl rfl _ 28 Try.call28 rfl rfl _ rfl [pK p 0] rfl (yj _ p wp B id false op mi mn pi pn oth ro rc q k c ⟨kp, HW⟩) ?_
  intro w1 G
  replace kp := G.has kp
  replace HW := HW.gro G
  replace GG := GG.trans G
  clear G
  refine sv 10 (vTr) (jU _ _ rfl false rfl) (wpList_nil (ja (wp_cond_true rfl (wp_seq (wp_region_lit (mv 2 (.slice none 0 0) (wpList_nil (ja (wp_ret (jL ?_))))))))))
  refine bodyPost_ret (results_tmp Try.results14 _ _ _) rfl ?_
  exact ⟨none, 0, [], (p :: wp :: blk ro), (txb q), rfl, rfl, LF.nil _ _, ⟨wp, B, ro, rc, q, ⟨kp, HW⟩, rfl, rfl, rfl⟩, GroS.of GG, Fresh.refl _ _, Fresh.refl _ _⟩
theorem Zc (w : World) (p wp B : Nat) (id : Nat → Nat) (mi mn pi pn : Int) (oth : Nat → Nat) (ro : Option Addr) (rc : Nat) (q : List RV) (k c : Nat) (H : EW w p wp B id true false mi mn pi pn oth ro rc q k c) : Calls Try.prog 14 #[pK p 0] w (ListP w p id (p :: wp :: blk ro) (txb q) (⟨true, false, mi, mn, pi, pn, oth, k, (q.map (·.l)), c⟩, [⟨1, id, mi, mn, pi, pn, 0, []⟩])) := by
  refine jq Try.func14 rfl Try.ntmps14 [pK p 0] ?_
  intro U h; simp only [List.length_cons, List.length_nil, List.cons_append, List.nil_append, Nat.reduceAdd, Nat.reduceSub, List.reduceReplicate] at h; subst h
  have GG := Gro.refl w
  have kp := H.box
  have HW := H.win
  have hpl := jm kp
  refine wp_seq (wp_region_lit (mv 2 (.slice none 0 0) (wpList_nil (ja (wp_seq (wp_seq (wp_region_lit (mv 8 (pK p 0) ?_))))))))
  refine jC 9 rfl rfl _ 28 Try.call28 rfl rfl _ rfl [pK p 0] rfl (yj _ p wp B id true false mi mn pi pn oth ro rc q k c ⟨kp, HW⟩) ?_
  intro w1 G
  replace kp := G.has kp
  replace HW := HW.gro G
  replace GG := GG.trans G
  clear G
  refine sv 10 (vFa) (jU _ _ rfl true rfl) (wpList_nil (ja (wp_cond_false rfl (wp_skip (ja (wp_seq (wp_seq (wp_region_lit (mv 11 (pK p 0) (sv 12 (pK p 0) (jl _ rfl _ rfl) (sv 13 (pK p 17) (jc 98 _ 2 rfl _ _ rfl _) (sv 14 (vFa) (je 4 _ rfl p 17 rfl 98 _ kp (na4 _) _ rfl) ?_))))))))))))
  refine sv 15 (vTr) (jU _ _ rfl false rfl) ?_
  refine nr ?_; intro U h; simp only [z0, z1] at h; subst h
  refine wpList_nil (ja (wp_cond_true rfl (wp_seq (wp_region_lit (mv 16 (pK p 0) ?_)))))
  refine jt 17 rfl rfl _ 35 Try.call35 rfl rfl _ rfl [pK p 0] rfl (zn _ p wp B id true false mi mn pi pn oth ro rc q k c ⟨kp, HW⟩) (fun _ _ ⟨_, _, _, _, _, he, _⟩ => ⟨_, he⟩) ?_
  rintro v w2 ⟨s1g, s2g, s3g, aog, capg, he, HVg, G⟩
  cases he
  replace kp := G.has kp
  replace HW := HW.gro G
  replace GG := GG.trans G
  clear G
  refine zR 18 rfl rfl 50 1 _ rfl [(0, .agg (c46 1 zF 0 false id zF 0 mi mn pi pn s1g s2g zF 0 zF s3g 0 0 ⟨aog, 0, capg⟩))] rfl (c46 1 zF 0 false id zF 0 mi mn pi pn s1g s2g zF 0 zF s3g 0 0 ⟨aog, 0, capg⟩) 46 (by kernel_rfl) ?_
  intro w3 g1 G eg1 kg1
  have bg1 := jh GG eg1
  have dpg1 := jf kp eg1
  replace kp := G.has kp
  replace HW := HW.gro G
  replace HVg := HVg.gro G
  replace GG := GG.trans G
  clear G eg1
  refine mv 2 (.slice (some ⟨g1, 0, none⟩) 1 1) (wpList_nil (ja (wp_ret (jL ?_))))
  refine bodyPost_ret (results_tmp Try.results14 _ _ _) rfl ?_
  exact ⟨_, _, [(⟨1, id, mi, mn, pi, pn, 0, []⟩, pfr ⟨1, id, mi, mn, pi, pn, 0, []⟩ s1g s2g s3g ⟨aog, 0, capg⟩)], (p :: wp :: blk ro), (txb q), rfl, rfl, LF.one kg1 (Nat.zero_le _) HVg, ⟨wp, B, ro, rc, q, ⟨kp, HW⟩, rfl, rfl, rfl⟩, GroS.of GG, Fresh.refl _ _, Fresh.refl _ _⟩
theorem AL.stF {w w' : World} {M g : Nat} {r : List (Nat × List Nat)} (h : AL w M g r) {gm : Nat} {c : Array Value} {o : Obj} (hg : w.heap[gm]? = some (.cells c 46 (0, 0))) (St : Stored w w' gm o) : AL w' M g r :=
  ⟨h.base, St.has (jy h.row hg (by decide)) h.row, fun x hx => ⟨(h.fr x hx).1, St.has (jy (h.fr x hx).2.1 hg (by decide)) (h.fr x hx).2.1, (h.fr x hx).2.2⟩⟩
section
variable (w : World) (p : Nat) (id : Nat → Nat) (x : ES) (mu tb : List Nat)
theorem up_x (H : EX w p id x mu tb) : Calls Try.prog 28 #[pK p 0] w fun e w' => e = .returned (.bool x.up) ∧ Gro w w' := by
  obtain ⟨wp, B, ro, rc, q, h, _⟩ := H
  exact yj w p wp B id x.up x.op x.mi x.mn x.pi x.pn x.oth ro rc q x.k x.c h
theorem yx (H : EX w p id x mu tb) : Calls Try.prog 23 #[pK p 0] w fun e w' => e = .returned (.tuple #[.agg (c29 x.mi x.mn), .agg (c29 x.pi x.pn)]) ∧ Gro w w' := by
  obtain ⟨wp, B, ro, rc, q, h, _⟩ := H
  exact ZM w p wp B id x.up x.op x.mi x.mn x.pi x.pn x.oth ro rc q x.k x.c h
theorem open_x (H : EX w p id x mu tb) : Calls Try.prog 24 #[pK p 0] w fun e w' => e = .returned (.tuple #[.agg (c23 (if x.op = true then x.oth else zF)), .bool x.op]) ∧ Gro w w' := by
  obtain ⟨wp, B, ro, rc, q, h, _⟩ := H
  obtain ⟨up, op, mi, mn, pi, pn, oth, k, xq, c⟩ := x
  cases op
  · exact uA w p wp B id up mi mn pi pn oth ro rc q k c h
  · exact yS w p wp B id up mi mn pi pn oth ro rc q k c h
theorem ux (H : EX w p id x mu tb) (ni nn : Int) : Calls Try.prog 10 #[pK p 0, .agg (c29 ni nn)] w (ListP w p id mu tb (riseS id x ni nn)) := by
  obtain ⟨wp, B, ro, rc, q, h, hq, rfl, rfl⟩ := H
  obtain ⟨up, op, mi, mn, pi, pn, oth, k, xq, c⟩ := x
  simp only at h hq
  subst hq
  cases up
  · exact (Zk w p wp B id op mi mn pi pn oth ro rc q k c h ni nn).mono fun e w' ⟨g, f, he, G, h1, h2⟩ => ⟨_, _, [(_, f)], _, _, he, rfl, h2.mono (Nat.zero_le _), ⟨wp, B, ro, rc, q, h1, rfl, rfl, rfl⟩, G.p1, Fresh.refl _ _, Fresh.refl _ _⟩
  · exact (YE w p wp B id op mi mn pi pn oth ro rc q k c h ni nn).mono fun e w' ⟨he, G⟩ => ⟨none, 0, [], _, _, he, rfl, LF.nil _ _, ⟨wp, B, ro, rc, q, h.gro G, rfl, rfl, rfl⟩, GroS.of G, Fresh.refl _ _, Fresh.refl _ _⟩
theorem uO (H : EX w p id x mu tb) : Calls Try.prog 12 #[pK p 0] w fun e w' => ∃ mu' tb', e = .returned (.bool x.op) ∧ EX w' p id ES.new mu' tb' ∧ GroS mu w w' ∧ Fresh w mu mu' ∧ Fresh w tb tb' := by
  obtain ⟨wp, B, ro, rc, q, h, hq, rfl, rfl⟩ := H
  obtain ⟨up, op, mi, mn, pi, pn, oth, k, xq, c⟩ := x
  cases op
  · exact (JH w p wp B id up mi mn pi pn oth ro rc q k c h).mono fun e w' ⟨he, G, wp2, B2, h1, h2⟩ => ⟨_, _, he, ⟨wp2, B2, none, 0, [], h2, rfl, rfl, rfl⟩, G.p1, Fresh.win h1, Fresh.nil0 _ _⟩
  · exact (Zt w p wp B id up mi mn pi pn oth ro rc q k c h).mono fun e w' ⟨he, G, wp2, B2, h1, h2⟩ => ⟨_, _, he, ⟨wp2, B2, none, 0, [], h2, rfl, rfl, rfl⟩, G.p1, Fresh.win h1, Fresh.nil0 _ _⟩
end
def PF.zero : PF := ⟨0, zF, 0, 0, 0, 0, 0, []⟩
def sendS (x : ES) (l : List Nat) : ES × PF × Int :=
  if x.op = true then (if 4096 < l.length then (x, PF.zero, 4) else ({ x with q := x.q ++ [l] }, dataF x ((x.k + (x.q.length + 1) : Nat) : Int) l, 0)) else (x, PF.zero, 10)
theorem FV.zero (w : World) : FV w PF.zero (pfr PF.zero Sl.nil Sl.nil Sl.nil Sl.nil) := ⟨Sl.nil, Sl.nil, Sl.nil, none, 0, rfl, NoR.nil, NoR.nil, NoR.nil, OB.nil _ _ _ _⟩
def SendX (w : World) (p : Nat) (id : Nat → Nat) (mu tb : List Nat) (r : ES × PF × Int) (e : Ending) (w' : World) : Prop := ∃ (f : Fr) (mu' tb' : List Nat), e = .returned (.tuple #[.agg (frA f), iK r.2.2]) ∧ FV w' r.2.1 f ∧ EX w' p id r.1 mu' tb' ∧ GroS mu w w' ∧ Fresh w mu mu' ∧ Fresh w tb tb'
theorem uw (w : World) (p : Nat) (id : Nat → Nat) (x : ES) (mu tb : List Nat) (H : EX w p id x mu tb) (hk : x.k + x.q.length ≤ 100000) (hc : x.c ≤ 100000) (ao : Option Addr) (cap : Nat) (l : List Nat) (HB : NC w .u8 ao cap l) (hne : ∀ ad, ao = some ad → 0 < l.length → ad.block ∉ mu) : Calls Try.prog 16 #[pK p 0, .slice ao l.length cap] w (SendX w p id mu tb (sendS x l)) := by
  obtain ⟨wp, B, ro, rc, q, h, hq, rfl, rfl⟩ := H
  obtain ⟨up, op, mi, mn, pi, pn, oth, k, xq, c⟩ := x
  simp only at h hq hk hc
  subst hq
  rw [List.length_map] at hk
  cases op
  · exact (JB w p wp B id up mi mn pi pn oth ro rc q k c h ao cap l).mono fun e w' ⟨he, G⟩ => ⟨pfr PF.zero Sl.nil Sl.nil Sl.nil Sl.nil, _, _, he, FV.zero _, ⟨wp, B, ro, rc, q, h.gro G, rfl, rfl, rfl⟩, GroS.of G, Fresh.refl _ _, Fresh.refl _ _⟩
  · by_cases hl : 4096 < l.length
    · rw [show sendS ⟨up, true, mi, mn, pi, pn, oth, k, q.map (·.l), c⟩ l = (⟨up, true, mi, mn, pi, pn, oth, k, q.map (·.l), c⟩, PF.zero, 4) from (if_pos rfl).trans (if_pos hl)]
      exact (JC w p wp B id up mi mn pi pn oth ro rc q k c h ao cap l hl).mono fun e w' ⟨he, G⟩ => ⟨pfr PF.zero Sl.nil Sl.nil Sl.nil Sl.nil, _, _, he, FV.zero _, ⟨wp, B, ro, rc, q, h.gro G, rfl, rfl, rfl⟩, GroS.of G, Fresh.refl _ _, Fresh.refl _ _⟩
    · rw [show sendS ⟨up, true, mi, mn, pi, pn, oth, k, q.map (·.l), c⟩ l = (⟨up, true, mi, mn, pi, pn, oth, k, q.map (·.l) ++ [l], c⟩, ⟨2, zF, mi, mn, pi, pn, ((k + ((q.map (·.l)).length + 1) : Nat) : Int), l⟩, 0) from (if_pos rfl).trans (if_neg hl)]
      refine (ZY w p wp B id up mi mn pi pn oth ro rc q k c h hk hc ao cap l HB hne (by omega)).mono fun e w' ⟨ao2, cap2, y, f, he, hf, hy, G, h1, h2, h3⟩ => ⟨f, _, _, he, ?_, ⟨wp, B, ao2, cap2, q ++ [y], h1, by simp [hy], rfl, rfl⟩, G, Fresh.row h3, Fresh.app h2⟩
      have e1 : (q ++ [y]).length = (q.map (·.l)).length + 1 := by simp
      rw [e1] at hf
      exact hf
end Go.Proofs.Ytlfanecaglbomaa
