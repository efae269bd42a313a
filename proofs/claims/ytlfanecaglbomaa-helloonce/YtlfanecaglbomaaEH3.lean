/- The program's end: Rise, Fall, Send, Window, Waiting, what comes of a greeting. -/
import Derived.Test.YtlfanecaglbomaaEH2
namespace Go.Proofs.Ytlfanecaglbomaa
set_option maxRecDepth 100000
set_option maxHeartbeats 4000000
open Go.RowKit
theorem WX.notT {t : TypeId} {cs : Array Value} {w : World} {p B : Nat} {ao : Option Addr} {cap : Nat} {q : List RV} (H : WX t cs w p B ao cap q) {g : Nat} {t' : TypeId} {c : Array Value} (hg : w.heap[g]? = some (.cells c t' (0, 0))) (ht : t' ≠ t) (h36 : t' ≠ 36) : g ∉ p :: blk ao := fun h => by
  rcases List.mem_cons.1 h with rfl | h
  · exact jy hg H.box ht rfl
  · exact H.row.ne hg h36 h
def Fresh (w : World) (a b : List Nat) : Prop := ∀ k ∈ b, k ∈ a ∨ w.heap.size ≤ k
theorem Fresh.refl (w : World) (a : List Nat) : Fresh w a a := fun _ h => .inl h
theorem Fresh.nil0 (w : World) (a : List Nat) : Fresh w a [] := fun _ h => by cases h
theorem Fresh.win {w : World} {p wp wp2 : Nat} {S : List Nat} (h : w.heap.size ≤ wp2) : Fresh w (p :: wp :: S) (p :: wp2 :: blk Option.none) := fun k hk => by
  rcases List.mem_cons.1 hk with rfl | hk
  · exact .inl List.mem_cons_self
  · rcases List.mem_cons.1 hk with rfl | hk
    · exact .inr h
    · cases hk
theorem Fresh.row {w : World} {p wp : Nat} {ro ro2 : Option Addr} (h : Kept w.heap.size ro ro2) : Fresh w (p :: wp :: blk ro) (p :: wp :: blk ro2) := fun k hk => by
  rcases List.mem_cons.1 hk with rfl | hk
  · exact .inl List.mem_cons_self
  · rcases List.mem_cons.1 hk with rfl | hk
    · exact .inl (List.mem_cons_of_mem _ List.mem_cons_self)
    · exact (h k hk).imp (fun h => List.mem_cons_of_mem _ (List.mem_cons_of_mem _ h)) id
def txb (q : List RV) : List Nat := q.flatMap fun y => blk y.ao
theorem Fresh.app {w : World} {q : List RV} {y : RV} (h : ∀ ad, y.ao = some ad → w.heap.size ≤ ad.block) : Fresh w (txb q) (txb (q ++ [y])) := fun k hk => by
  obtain ⟨z, hz, hk⟩ := List.mem_flatMap.1 hk
  rcases List.mem_append.1 hz with hz | hz
  · exact .inl (List.mem_flatMap.2 ⟨z, hz, hk⟩)
  · cases List.mem_singleton.1 hz
    obtain ⟨ad, h1, rfl⟩ := mem_blk.1 hk
    exact .inr (h ad h1)
theorem Fresh.drop (w : World) (q : List RV) (m : Nat) : Fresh w (txb q) (txb (q.drop m)) := fun _ hk => by
  obtain ⟨z, hz, hk⟩ := List.mem_flatMap.1 hk
  exact .inl (List.mem_flatMap.2 ⟨z, List.mem_of_mem_drop hz, hk⟩)
def EX (w : World) (p : Nat) (id : Nat → Nat) (x : ES) (mu tb : List Nat) : Prop := ∃ (wp B : Nat) (ro : Option Addr) (rc : Nat) (q : List RV), EW w p wp B id x.up x.op x.mi x.mn x.pi x.pn x.oth ro rc q x.k x.c ∧ q.map (·.l) = x.q ∧ mu = p :: wp :: blk ro ∧ tb = txb q
def TV (w : World) (t : PT) (v : Value) : Prop := ∃ (ao : Option Addr) (cap : Nat) (oo : Option Addr) (oc : Nat) (fs : List (PF × Fr)), v = .agg (c59 t.died t.opened ⟨ao, t.tx.length, cap⟩ t.came ⟨oo, fs.length, oc⟩) ∧ OB w 5 .u8 0 ao cap t.tx ∧ fs.map (·.1) = t.out ∧ LF w 0 oo oc fs
theorem TV.no (w : World) : TV w PT.no (.agg (c59 false false Sl.nil false Sl.nil)) := ⟨none, 0, none, 0, [], rfl, OB.nil _ _ _ _, rfl, LF.nil _ _⟩
theorem TV.one {w : World} {d o : Bool} {g : Nat} {m : PF} {f : Fr} (hg : w.heap[g]? = some (.cells (frA f) 46 (0, 0))) (h : FV w m f) : TV w ⟨d, o, [], false, [m]⟩ (.agg (c59 d o Sl.nil false ⟨some ⟨g, 0, none⟩, 1, 1⟩)) := ⟨none, 0, some ⟨g, 0, none⟩, 1, [(m, f)], rfl, OB.nil _ _ _ _, rfl, LF.one hg (Nat.zero_le _) h⟩
def HearP (w : World) (p : Nat) (id : Nat → Nat) (mu tb : List Nat) (r : ES × PT) (e : Ending) (w' : World) : Prop := ∃ v mu' tb', e = .returned v ∧ TV w' r.2 v ∧ EX w' p id r.1 mu' tb' ∧ GroS mu w w' ∧ Fresh w mu mu' ∧ Fresh w tb tb'
def alE (M : Nat) (t : TypeId) (cs : Array Value) : PostE := PostE.ex (fun v x => ∃ g, v = pK g 0 ∧ M ≤ g ∧ x.heap[g]? = some (.cells cs t (0, 0))) (fun _ _ _ G ⟨g, h1, h2, h3⟩ => ⟨g, h1, h2, G.has h3⟩)
theorem vz (M : Nat) (t : TypeId) (cs : Array Value) (v : Value) : (alE M t cs).fill v = v := rfl
theorem uB {P : Program} {ops : Array Oper} {o : Oper} {A : Act} {w : World} {M : Nat} (hw : Region.wanted o (yielded ops A.tmps) = true) (t : TypeId) (ho : o.op = .alloc t) (v : Value) (hz : (zeroValue t).run P w = .ok v w) (cs : Array Value) (hc : v.cells = cs) (hM : M ≤ w.heap.size) : OpE P ops (alE M t cs) o A w := by
  refine za _ hw (v := .pointer (some ⟨w.heap.size, 0, none⟩)) (w' := w.alloc (.cells cs t)) ?_ (jR _ _) ⟨w.heap.size, rfl, hM, heap_alloc_new _ _⟩
  subst hc
  unfold execOp
  simp [ho, hz, go_sem, Instr.alloc]
theorem YE (w : World) (p wp B : Nat) (id : Nat → Nat) (op : Bool) (mi mn pi pn : Int) (oth : Nat → Nat) (ro : Option Addr) (rc : Nat) (q : List RV) (k c : Nat) (H : EW w p wp B id true op mi mn pi pn oth ro rc q k c) (ni nn : Int) : Calls Try.prog 10 #[pK p 0, .agg (c29 ni nn)] w fun e w' => e = .returned (.slice none 0 0) ∧ Gro w w' := by
  refine jq Try.func10 rfl Try.ntmps10 [pK p 0, .agg (c29 ni nn)] ?_
  intro U h; simp only [List.length_cons, List.length_nil, List.cons_append, List.nil_append, Nat.reduceAdd, Nat.reduceSub, List.reduceReplicate] at h; subst h
  have GG := Gro.refl w
  have kp := H.box
  have HW := H.win
  have hpl := jm kp
  refine wp_seq (wp_region_lit ?_)
  refine jE 3 rfl rfl 29 _ rfl _ rfl (c29 ni nn) rfl ?_
  intro w1 g1 G eg1 kg1
  have bg1 := jh GG eg1
  have dpg1 := jf kp eg1
  replace kp := G.has kp
  replace HW := HW.gro G
  replace GG := GG.trans G
  clear G eg1
  refine mv 4 (.slice none 0 0) (wpList_nil (ja (wp_seq (wp_seq ?_))))
  refine jr ?_
  intro OPS hY
  have y2 := hY 2 7 rfl
  clear hY
  refine mv 5 (pK p 0) (sv 6 (vFa) (ze 25 _ _ _ rfl _ rfl rfl Try.underlying25 _) (mv 7 (vFa) (jn 8 rfl rfl y2 rfl (pK p 0) (rfl) (jn 9 rfl rfl y2 rfl (pK p 0) (jl _ rfl _ rfl) ?_))))
  refine jn 10 rfl rfl y2 rfl (pK p 16) (jc 98 _ 1 rfl _ _ rfl _) (jn 11 rfl rfl y2 rfl (vTr) (je 4 _ rfl p 16 rfl 98 _ kp (na4 _) _ rfl) ?_)
  refine nr ?_; intro U h; simp only [z0, z1] at h; subst h
  refine mv 12 (vTr) (wpList_nil (ja (wp_cond_true rfl (wp_seq (wp_region_lit (mv 4 (.slice none 0 0) (wpList_nil (ja (wp_ret (jL ?_))))))))))
  refine bodyPost_ret (results_tmp Try.results10 _ _ _) rfl ?_
  exact ⟨rfl, GG⟩
theorem Zk (w : World) (p wp B : Nat) (id : Nat → Nat) (op : Bool) (mi mn pi pn : Int) (oth : Nat → Nat) (ro : Option Addr) (rc : Nat) (q : List RV) (k c : Nat) (H : EW w p wp B id false op mi mn pi pn oth ro rc q k c) (ni nn : Int) : Calls Try.prog 10 #[pK p 0, .agg (c29 ni nn)] w fun e w' => ∃ g f, e = .returned (.slice (some ⟨g, 0, none⟩) 1 1) ∧ GroS [p] w w' ∧ EW w' p wp B id true op ni nn pi pn oth ro rc q k c ∧ LF w' w.heap.size (some ⟨g, 0, none⟩) 1 [(⟨1, id, ni, nn, pi, pn, 0, []⟩, f)] := by
  refine jq Try.func10 rfl Try.ntmps10 [pK p 0, .agg (c29 ni nn)] ?_
  intro U h; simp only [List.length_cons, List.length_nil, List.cons_append, List.nil_append, Nat.reduceAdd, Nat.reduceSub, List.reduceReplicate] at h; subst h
  have GG := GroS.refl [p] w
  have kp := H.box
  have HW := H.win
  have hpl := jm kp
  refine wp_seq (wp_region_lit ?_)
  refine jE 3 rfl rfl 29 _ rfl _ rfl (c29 ni nn) rfl ?_
  intro w1 g1 G eg1 kg1
  have bg1 := jz GG eg1
  have dpg1 := jf kp eg1
  replace kp := G.has kp
  replace HW := HW.gro G
  replace GG := GG.tg G
  clear G eg1
  refine mv 4 (.slice none 0 0) (wpList_nil (ja (wp_seq (wp_seq ?_))))
  refine jr ?_
  intro OPS hY
  have y2 := hY 2 7 rfl
  clear hY
  refine mv 5 (pK p 0) (sv 6 (vFa) (ze 25 _ _ _ rfl _ rfl rfl Try.underlying25 _) (mv 7 (vFa) (jn 8 rfl rfl y2 rfl (pK p 0) (rfl) (jn 9 rfl rfl y2 rfl (pK p 0) (jl _ rfl _ rfl) ?_))))
  refine jn 10 rfl rfl y2 rfl (pK p 16) (jc 98 _ 1 rfl _ _ rfl _) (jn 11 rfl rfl y2 rfl (vFa) (je 4 _ rfl p 16 rfl 98 _ kp (na4 _) _ rfl) ?_)
  refine nr ?_; intro U h; simp only [z0, z1] at h; subst h
  refine mv 12 (vFa) (wpList_nil (ja (wp_cond_false rfl (wp_skip (ja (wp_seq ?_))))))
  refine jJ (A := ?Ap1) (fun L x => GroS [p] w x ∧ x.heap[p]? = some (.cells (cond (L 5) (c98 id true op mi mn pi pn oth (some ⟨wp, 0, none⟩)) (c98 id false op mi mn pi pn oth (some ⟨wp, 0, none⟩))) 98 (0, 0)) ∧ x.heap[g1]? = some (.cells (c29 ni nn) 29 (0, 0)) ∧ WX 121 (c121 ((k + q.length : Nat) : Int) ⟨ro, q.length, rc⟩ ((c : Nat) : Int)) x wp B ro rc q) 6 [(0, 13), (1, 14), (2, 15), (3, 16), (4, 17)] [.val (pK p 0), .val (pK p 0), .val (.agg (c29 ni nn)), .val (pK p 0), .val (pK p 16), .val undef] [] [] follows (by kernel_rfl) rfl (by kernel_rfl) (by decide) ⟨GG.drew, (Gro.refl _).drew.has kp, (Gro.refl _).drew.has kg1, HW.gro (Gro.refl _).drew⟩ ?hAp1 (ji (fun _ _ _ h _ G => ⟨h.1.tg G, G.has h.2.1, G.has h.2.2.1, h.2.2.2.gro G⟩) ?o0p1 (ji (fun _ _ _ h _ G => ⟨h.1.tg G, G.has h.2.1, G.has h.2.2.1, h.2.2.2.gro G⟩) ?o1p1 (ji (fun _ _ _ h _ G => ⟨h.1.tg G, G.has h.2.1, G.has h.2.2.1, h.2.2.2.gro G⟩) ?o2p1 (ji (fun _ _ _ h _ G => ⟨h.1.tg G, G.has h.2.1, G.has h.2.2.1, h.2.2.2.gro G⟩) ?o3p1 (ji (fun _ _ _ h _ G => ⟨h.1.tg G, G.has h.2.1, G.has h.2.2.1, h.2.2.2.gro G⟩) ?o4p1 (jX ?o5p1 zc)))))) ?restp1
  case hAp1 =>
    intro ptrs
    simp only [full, foldSlots, filledE, postE, List.foldl_cons, List.foldl_nil, List.getD_cons_zero, List.getD_cons_succ, ju,  List.set_cons_zero, List.set_cons_succ]
    exact rfl
  case o0p1 => exact fun _ _ _ _ _ _ _ _ => jj (v := pK p 0) _ rfl rfl rfl
  case o1p1 => exact fun _ _ _ _ _ _ _ _ => jj (v := pK p 0) _ rfl rfl rfl
  case o2p1 => exact fun _ _ x hx _ _ _ _ => jb (v := .agg (c29 ni nn)) rfl (jk 29 _ rfl g1 0 2 rfl 29 _ hx.2.2.1 _ Try.underlying29 rfl si29 _)
  case o3p1 => exact fun _ _ x hx _ _ _ _ => jb (v := pK p 0) rfl (jl _ rfl _ rfl)
  case o4p1 => exact fun _ _ x hx _ _ _ _ => jb (v := pK p 16) rfl (jc 98 _ 1 rfl _ _ rfl _)
  case o5p1 =>
    intro L ptrs x hx hL hed hno _
    have hk := hx.2.1
    rw [hL] at hk
    replace hk : x.heap[p]? = some (.cells (c98 id false op mi mn pi pn oth (some ⟨wp, 0, none⟩)) 98 (0, 0)) := hk
    refine zb _ rfl 4 _ _ rfl p 16 rfl (vTr) rfl 98 _ hk #[vTr] rfl (by kernel_rfl) (nlB rfl) (by kernel_rfl) (c98 id true op mi mn pi pn oth (some ⟨wp, 0, none⟩)) (by kernel_rfl) ?_
    intro y St
    exact ⟨⟨⟨hx.1.st St (.inr (by simp)), St.new, St.has (by omega) hx.2.2.1, hx.2.2.2.stT (by decide) (by decide) (by decide) hk St⟩, StM.vals [0, 1, 2, 3, 4] (by kernel_rfl) ⟨⟨_, rfl⟩, ⟨_, rfl⟩, ⟨_, rfl⟩, ⟨_, rfl⟩, ⟨_, rfl⟩, trivial⟩⟩, rfl⟩
  intro ptrs w2 HJ _
  simp only [List.drop_succ_cons, List.drop_zero]
  clear GG kp kg1 HW
  obtain ⟨GG, kp, kg1, HW⟩ := HJ
  replace kp : w2.heap[p]? = some (.cells (c98 id true op mi mn pi pn oth (some ⟨wp, 0, none⟩)) 98 (0, 0)) := kp
  refine sv 18 (pK p 0) (jl _ rfl _ rfl) (sv 19 (pK p 18) (jc 98 _ 3 rfl _ _ rfl _) ?_)
  refine jo rfl rfl 29 _ _ rfl p 18 rfl (.agg (c29 ni nn)) rfl 98 _ kp (c29 ni nn) rfl (by kernel_rfl) (nlB rfl) (by kernel_rfl) (c98 id true op ni nn pi pn oth (some ⟨wp, 0, none⟩)) (by kernel_rfl) ?_
  intro w4 St
  replace kg1 := St.has (by omega) kg1
  replace HW := HW.stT (by decide) (by decide) (by decide) kp St
  replace GG := GG.st St (.inr (by simp))
  replace kp := St.new
  clear St
  refine wpList_nil (ja (wp_seq (wp_region_lit (mv 20 (pK p 0) ?_))))
  refine jt 21 rfl rfl _ 35 Try.call35 rfl rfl _ rfl [pK p 0] rfl (zn _ p wp B id true op ni nn pi pn oth ro rc q k c ⟨kp, HW⟩) (fun _ _ ⟨_, _, _, _, _, he, _⟩ => ⟨_, he⟩) ?_
  rintro v w5 ⟨s1g, s2g, s3g, aog, capg, he, HVg, G⟩
  cases he
  replace kp := G.has kp
  replace kg1 := G.has kg1
  replace HW := HW.gro G
  replace GG := GG.tg G
  clear G
  refine zR 22 rfl rfl 50 1 _ rfl [(0, .agg (c46 1 zF 0 false id zF 0 ni nn pi pn s1g s2g zF 0 zF s3g 0 0 ⟨aog, 0, capg⟩))] rfl (c46 1 zF 0 false id zF 0 ni nn pi pn s1g s2g zF 0 zF s3g 0 0 ⟨aog, 0, capg⟩) 46 (by kernel_rfl) ?_
  intro w6 g2 G eg2 kg2
  have bg2 := jz GG eg2
  have dpg2 := jf kp eg2
  have dg1g2 := jf kg1 eg2
  replace kp := G.has kp
  replace kg1 := G.has kg1
  replace HW := HW.gro G
  replace HVg := HVg.gro G
  replace GG := GG.tg G
  clear G eg2
  refine mv 4 (.slice (some ⟨g2, 0, none⟩) 1 1) (wpList_nil (ja (wp_ret ?_)))
  refine bodyPost_ret (results_tmp Try.results10 _ _ _) rfl ?_
  exact ⟨_, _, rfl, GG, ⟨kp, HW⟩, LF.one (f := pfr ⟨1, id, ni, nn, pi, pn, 0, []⟩ s1g s2g s3g ⟨aog, 0, capg⟩) kg2 bg2 HVg⟩
theorem Zt (w : World) (p wp B : Nat) (id : Nat → Nat) (up : Bool) (mi mn pi pn : Int) (oth : Nat → Nat) (ro : Option Addr) (rc : Nat) (q : List RV) (k c : Nat) (H : EW w p wp B id up true mi mn pi pn oth ro rc q k c) : Calls Try.prog 12 #[pK p 0] w fun e w' => e = .returned (vTr) ∧ GroS [p] w w' ∧ ∃ wp2 B2, w.heap.size ≤ wp2 ∧ EW w' p wp2 B2 id false false 0 0 0 0 zF none 0 [] 0 0 := by
  refine jq Try.func12 rfl Try.ntmps12 [pK p 0] ?_
  intro U h; simp only [List.length_cons, List.length_nil, List.cons_append, List.nil_append, Nat.reduceAdd, Nat.reduceSub, List.reduceReplicate] at h; subst h
  have GG := GroS.refl [p] w
  have kp := H.box
  have HW := H.win
  have hpl := jm kp
  refine wp_seq (wp_region_lit (mv 2 (vFa) (wpList_nil (ja (wp_seq (wp_region_lit (mv 6 (pK p 0) ?_)))))))
  refine jC 7 rfl rfl _ 24 Try.call24 rfl rfl _ rfl [pK p 0] rfl (yS _ p wp B id up mi mn pi pn oth ro rc q k c ⟨kp, HW⟩) ?_
  intro w1 G
  replace kp := G.has kp
  replace HW := HW.gro G
  replace GG := GG.tg G
  clear G
  refine mv 5 (.tuple #[.agg (c23 oth), vTr]) (mv 8 (.agg (c23 oth)) (mv 9 (vTr) ?_))
  refine js 3 rfl rfl 23 rfl _ zv23 _ rfl ?_
  intro w2 g1 G eg1 kg1
  have bg1 := jz GG eg1
  have dpg1 := jf kp eg1
  replace kp := G.has kp
  replace HW := HW.gro G
  replace GG := GG.tg G
  clear G eg1
  refine jo rfl rfl 23 _ _ rfl g1 0 rfl (.agg (c23 oth)) rfl 23 _ kg1 (c23 oth) rfl (by kernel_rfl) (nlB rfl) (by kernel_rfl) (c23 oth) (by kernel_rfl) ?_
  intro w4 St
  replace kp := St.has (by omega) kp
  replace HW := HW.stT (by decide) (by decide) (by decide) kg1 St
  replace GG := GG.st St (.inl bg1)
  replace kg1 := St.new
  clear St
  refine mv 4 (vTr) (wpList_nil (ja (wp_seq (wp_seq (wp_region_lit (mv 10 (pK p 0) ?_))))))
  refine nr ?_; intro U h; simp only [z0, z1] at h; subst h
  refine sv 11 (vTr) (vI 25 _ _ _ rfl _ rfl rfl Try.underlying25 _) (wpList_nil (ja (wp_cond_true rfl (wp_region_lit (mv 12 (pK p 0) (mv 13 (pK p 0) (sv 14 (pK p 0) (jl _ rfl _ rfl) (sv 15 (pK p 0) (jc 98 _ 0 rfl _ _ rfl _) ?_))))))))
  refine sv 16 (.agg (c23 id)) (jk 23 _ rfl p 0 16 rfl 98 _ kp _ Try.underlying23 rfl si23 _) ?_
  refine jt 17 rfl rfl _ 7 Try.call7 rfl rfl _ rfl [.agg (c23 id)] rfl (yh _ id) (fun _ _ ⟨_, _, he, _⟩ => ⟨_, he⟩) ?_
  rintro v w5 ⟨p2, wp2, he, G, hp2, hwp2, HE⟩
  cases he
  have dpp2 := Nat.lt_of_lt_of_le (jm kp) hp2
  have dg1p2 := Nat.lt_of_lt_of_le (jm kg1) hp2
  replace hwp2 := Nat.le_trans GG.size hwp2
  have kp2 := HE.box
  have HW2 := HE.win
  clear HE
  replace kp := G.has kp
  replace kg1 := G.has kg1
  replace HW := HW.gro G
  replace GG := GG.tg G
  clear G
  refine sv 18 (pK p2 0) (jl _ rfl _ rfl) (sv 19 (.agg (c98 id false false 0 0 0 0 zF (some ⟨wp2, 0, none⟩))) (jk 98 _ rfl p2 0 39 rfl 98 _ kp2 _ Try.underlying98 rfl si98 _) ?_)
  refine nr ?_; intro U h; simp only [z0, z1] at h; subst h
  refine sv 20 (pK p 0) (jl _ rfl _ rfl) ?_
  refine jo rfl rfl 98 _ _ rfl p 0 rfl (.agg (c98 id false false 0 0 0 0 zF (some ⟨wp2, 0, none⟩))) rfl 98 _ kp (c98 id false false 0 0 0 0 zF (some ⟨wp2, 0, none⟩)) rfl (by kernel_rfl) (nlB rfl) (by kernel_rfl) (c98 id false false 0 0 0 0 zF (some ⟨wp2, 0, none⟩)) (by kernel_rfl) ?_
  intro w7 St
  replace kg1 := St.has (by omega) kg1
  replace kp2 := St.has (by omega) kp2
  replace HW2 := HW2.stT (by decide) (by decide) (by decide) kp St
  replace GG := GG.st St (.inr (by simp))
  replace kp := St.new
  clear St
  refine wpList_nil (ja (wp_seq (wp_region_lit (mv 21 (vTr) (mv 2 (vTr) (wpList_nil (ja (wp_ret ?_))))))))
  refine bodyPost_ret (results_tmp Try.results12 _ _ _) rfl ?_
  exact ⟨rfl, GG, wp2, _, hwp2, kp, HW2⟩
theorem JH (w : World) (p wp B : Nat) (id : Nat → Nat) (up : Bool) (mi mn pi pn : Int) (oth : Nat → Nat) (ro : Option Addr) (rc : Nat) (q : List RV) (k c : Nat) (H : EW w p wp B id up false mi mn pi pn oth ro rc q k c) : Calls Try.prog 12 #[pK p 0] w fun e w' => e = .returned (vFa) ∧ GroS [p] w w' ∧ ∃ wp2 B2, w.heap.size ≤ wp2 ∧ EW w' p wp2 B2 id false false 0 0 0 0 zF none 0 [] 0 0 := by
  refine jq Try.func12 rfl Try.ntmps12 [pK p 0] ?_
  intro U h; simp only [List.length_cons, List.length_nil, List.cons_append, List.nil_append, Nat.reduceAdd, Nat.reduceSub, List.reduceReplicate] at h; subst h
  have GG := GroS.refl [p] w
  have kp := H.box
  have HW := H.win
  have hpl := jm kp
  refine wp_seq (wp_region_lit (mv 2 (vFa) (wpList_nil (ja (wp_seq (wp_region_lit (mv 6 (pK p 0) ?_)))))))
  refine jC 7 rfl rfl _ 24 Try.call24 rfl rfl _ rfl [pK p 0] rfl (uA _ p wp B id up mi mn pi pn oth ro rc q k c ⟨kp, HW⟩) ?_
  intro w1 G
  replace kp := G.has kp
  replace HW := HW.gro G
  replace GG := GG.tg G
  clear G
  refine mv 5 (.tuple #[.agg (c23 zF), vFa]) (mv 8 (.agg (c23 zF)) (mv 9 (vFa) ?_))
  refine js 3 rfl rfl 23 rfl _ zv23 _ rfl ?_
  intro w2 g1 G eg1 kg1
  have bg1 := jz GG eg1
  have dpg1 := jf kp eg1
  replace kp := G.has kp
  replace HW := HW.gro G
  replace GG := GG.tg G
  clear G eg1
  refine jo rfl rfl 23 _ _ rfl g1 0 rfl (.agg (c23 zF)) rfl 23 _ kg1 (c23 zF) rfl (by kernel_rfl) (nlB rfl) (by kernel_rfl) (c23 zF) (by kernel_rfl) ?_
  intro w4 St
  replace kp := St.has (by omega) kp
  replace HW := HW.stT (by decide) (by decide) (by decide) kg1 St
  replace GG := GG.st St (.inl bg1)
  replace kg1 := St.new
  clear St
  refine mv 4 (vFa) (wpList_nil (ja (wp_seq (wp_seq (wp_region_lit (mv 10 (pK p 0) ?_))))))
  refine nr ?_; intro U h; simp only [z0, z1] at h; subst h
  refine sv 11 (vTr) (vI 25 _ _ _ rfl _ rfl rfl Try.underlying25 _) (wpList_nil (ja (wp_cond_true rfl (wp_region_lit (mv 12 (pK p 0) (mv 13 (pK p 0) (sv 14 (pK p 0) (jl _ rfl _ rfl) (sv 15 (pK p 0) (jc 98 _ 0 rfl _ _ rfl _) ?_))))))))
  refine sv 16 (.agg (c23 id)) (jk 23 _ rfl p 0 16 rfl 98 _ kp _ Try.underlying23 rfl si23 _) ?_
  refine jt 17 rfl rfl _ 7 Try.call7 rfl rfl _ rfl [.agg (c23 id)] rfl (yh _ id) (fun _ _ ⟨_, _, he, _⟩ => ⟨_, he⟩) ?_
  rintro v w5 ⟨p2, wp2, he, G, hp2, hwp2, HE⟩
  cases he
  have dpp2 := Nat.lt_of_lt_of_le (jm kp) hp2
  have dg1p2 := Nat.lt_of_lt_of_le (jm kg1) hp2
  replace hwp2 := Nat.le_trans GG.size hwp2
  have kp2 := HE.box
  have HW2 := HE.win
  clear HE
  replace kp := G.has kp
  replace kg1 := G.has kg1
  replace HW := HW.gro G
  replace GG := GG.tg G
  clear G
  refine sv 18 (pK p2 0) (jl _ rfl _ rfl) (sv 19 (.agg (c98 id false false 0 0 0 0 zF (some ⟨wp2, 0, none⟩))) (jk 98 _ rfl p2 0 39 rfl 98 _ kp2 _ Try.underlying98 rfl si98 _) ?_)
  refine nr ?_; intro U h; simp only [z0, z1] at h; subst h
  refine sv 20 (pK p 0) (jl _ rfl _ rfl) ?_
  refine jo rfl rfl 98 _ _ rfl p 0 rfl (.agg (c98 id false false 0 0 0 0 zF (some ⟨wp2, 0, none⟩))) rfl 98 _ kp (c98 id false false 0 0 0 0 zF (some ⟨wp2, 0, none⟩)) rfl (by kernel_rfl) (nlB rfl) (by kernel_rfl) (c98 id false false 0 0 0 0 zF (some ⟨wp2, 0, none⟩)) (by kernel_rfl) ?_
  intro w7 St
  replace kg1 := St.has (by omega) kg1
  replace kp2 := St.has (by omega) kp2
  replace HW2 := HW2.stT (by decide) (by decide) (by decide) kp St
  replace GG := GG.st St (.inr (by simp))
  replace kp := St.new
  clear St
  refine wpList_nil (ja (wp_seq (wp_region_lit (mv 21 (vFa) (mv 2 (vFa) (wpList_nil (ja (wp_ret ?_))))))))
  refine bodyPost_ret (results_tmp Try.results12 _ _ _) rfl ?_
  exact ⟨rfl, GG, wp2, _, hwp2, kp, HW2⟩
theorem JB (w : World) (p wp B : Nat) (id : Nat → Nat) (up : Bool) (mi mn pi pn : Int) (oth : Nat → Nat) (ro : Option Addr) (rc : Nat) (q : List RV) (k c : Nat) (H : EW w p wp B id up false mi mn pi pn oth ro rc q k c) (ao : Option Addr) (cap : Nat) (l : List Nat) : Calls Try.prog 16 #[pK p 0, .slice ao l.length cap] w fun e w' => e = .returned (.tuple #[.agg (c46 0 zF 0 false zF zF 0 0 0 0 0 Sl.nil Sl.nil zF 0 zF Sl.nil 0 0 Sl.nil), iK 10]) ∧ Gro w w' := by
  refine jq Try.func16 rfl Try.ntmps16 [pK p 0, .slice ao l.length cap] ?_
  intro U h; simp only [List.length_cons, List.length_nil, List.cons_append, List.nil_append, Nat.reduceAdd, Nat.reduceSub, List.reduceReplicate] at h; subst h
  have GG := Gro.refl w
  have kp := H.box
  have HW := H.win
  have hpl := jm kp
  refine wp_seq (wp_region_lit ?_)
  refine js 4 rfl rfl 46 rfl _ zv46 _ rfl ?_
  intro w1 g1 G eg1 kg1
  have bg1 := jh GG eg1
  have dpg1 := jf kp eg1
  replace kp := G.has kp
  replace HW := HW.gro G
  replace GG := GG.trans G
  clear G eg1
  refine mv 5 (iK 0) (wpList_nil (ja (wp_seq (wp_seq (wp_region_lit (mv 11 (pK p 0) ?_))))))
  refine jC 12 rfl rfl _ 24 Try.call24 rfl rfl _ rfl [pK p 0] rfl (uA _ p wp B id up mi mn pi pn oth ro rc q k c ⟨kp, HW⟩) ?_
  intro w2 G
  replace kp := G.has kp
  replace kg1 := G.has kg1
  replace HW := HW.gro G
  replace GG := GG.trans G
  clear G
  refine mv 10 (.tuple #[.agg (c23 zF), vFa]) (mv 13 (.agg (c23 zF)) (mv 14 (vFa) ?_))
  refine js 6 rfl rfl 23 rfl _ zv23 _ rfl ?_
  intro w3 g2 G eg2 kg2
  have bg2 := jh GG eg2
  have dpg2 := jf kp eg2
  have dg1g2 := jf kg1 eg2
  replace kp := G.has kp
  replace kg1 := G.has kg1
  replace HW := HW.gro G
  replace GG := GG.trans G
  clear G eg2
  refine jo rfl rfl 23 _ _ rfl g2 0 rfl (.agg (c23 zF)) rfl 23 _ kg2 (c23 zF) rfl (by kernel_rfl) (nlB rfl) (by kernel_rfl) (c23 zF) (by kernel_rfl) ?_
  intro w5 St
  replace kp := St.has (by omega) kp
  replace kg1 := St.has (by omega) kg1
  replace HW := HW.stT (by decide) (by decide) (by decide) kg2 St
  replace GG := GG.store St bg2
  replace kg2 := St.new
  clear St
  refine mv 7 (vFa) ?_
  refine nr ?_; intro U h; simp only [z0, z1] at h; subst h
  refine wpList_nil (ja (wp_seq (wp_region_lit (mv 15 (vFa) (sv 16 (vTr) (jU _ _ rfl false rfl) (wpList_nil (ja (wp_cond_true rfl (wp_seq (wp_region_lit (sv 17 (.agg (c46 0 zF 0 false zF zF 0 0 0 0 0 Sl.nil Sl.nil zF 0 zF Sl.nil 0 0 Sl.nil)) (jA 46 _ rfl [] rfl _ (by kernel_rfl)) ?_)))))))))))
  refine jo rfl rfl 46 _ _ rfl g1 0 rfl (.agg (c46 0 zF 0 false zF zF 0 0 0 0 0 Sl.nil Sl.nil zF 0 zF Sl.nil 0 0 Sl.nil)) rfl 46 _ kg1 (c46 0 zF 0 false zF zF 0 0 0 0 0 Sl.nil Sl.nil zF 0 zF Sl.nil 0 0 Sl.nil) rfl (by kernel_rfl) (nlB rfl) (by kernel_rfl) (c46 0 zF 0 false zF zF 0 0 0 0 0 Sl.nil Sl.nil zF 0 zF Sl.nil 0 0 Sl.nil) (by kernel_rfl) ?_
  intro w7 St
  replace kp := St.has (by omega) kp
  replace kg2 := St.has (by omega) kg2
  replace HW := HW.stT (by decide) (by decide) (by decide) kg1 St
  replace GG := GG.store St bg1
  replace kg1 := St.new
  clear St
  refine mv 5 (iK 10) (wpList_nil (ja (wp_ret (jL ?_))))
  refine bodyPost_ret (jI Try.results16 _ _ g1 46 _ (0, 0) _ rfl (iK 10) rfl kg1 Try.underlying46 rfl (by kernel_rfl)) rfl ?_
  exact ⟨rfl, GG⟩
theorem JC (w : World) (p wp B : Nat) (id : Nat → Nat) (up : Bool) (mi mn pi pn : Int) (oth : Nat → Nat) (ro : Option Addr) (rc : Nat) (q : List RV) (k c : Nat) (H : EW w p wp B id up true mi mn pi pn oth ro rc q k c) (ao : Option Addr) (cap : Nat) (l : List Nat) (hl : 4096 < l.length) : Calls Try.prog 16 #[pK p 0, .slice ao l.length cap] w fun e w' => e = .returned (.tuple #[.agg (c46 0 zF 0 false zF zF 0 0 0 0 0 Sl.nil Sl.nil zF 0 zF Sl.nil 0 0 Sl.nil), iK 4]) ∧ Gro w w' := by
  refine jq Try.func16 rfl Try.ntmps16 [pK p 0, .slice ao l.length cap] ?_
  intro U h; simp only [List.length_cons, List.length_nil, List.cons_append, List.nil_append, Nat.reduceAdd, Nat.reduceSub, List.reduceReplicate] at h; subst h
  have GG := Gro.refl w
  have kp := H.box
  have HW := H.win
  have hpl := jm kp
  refine wp_seq (wp_region_lit ?_)
  refine js 4 rfl rfl 46 rfl _ zv46 _ rfl ?_
  intro w1 g1 G eg1 kg1
  have bg1 := jh GG eg1
  have dpg1 := jf kp eg1
  replace kp := G.has kp
  replace HW := HW.gro G
  replace GG := GG.trans G
  clear G eg1
  refine mv 5 (iK 0) (wpList_nil (ja (wp_seq (wp_seq (wp_region_lit (mv 11 (pK p 0) ?_))))))
  refine jC 12 rfl rfl _ 24 Try.call24 rfl rfl _ rfl [pK p 0] rfl (yS _ p wp B id up mi mn pi pn oth ro rc q k c ⟨kp, HW⟩) ?_
  intro w2 G
  replace kp := G.has kp
  replace kg1 := G.has kg1
  replace HW := HW.gro G
  replace GG := GG.trans G
  clear G
  refine mv 10 (.tuple #[.agg (c23 oth), vTr]) (mv 13 (.agg (c23 oth)) (mv 14 (vTr) ?_))
  refine js 6 rfl rfl 23 rfl _ zv23 _ rfl ?_
  intro w3 g2 G eg2 kg2
  have bg2 := jh GG eg2
  have dpg2 := jf kp eg2
  have dg1g2 := jf kg1 eg2
  replace kp := G.has kp
  replace kg1 := G.has kg1
  replace HW := HW.gro G
  replace GG := GG.trans G
  clear G eg2
  refine jo rfl rfl 23 _ _ rfl g2 0 rfl (.agg (c23 oth)) rfl 23 _ kg2 (c23 oth) rfl (by kernel_rfl) (nlB rfl) (by kernel_rfl) (c23 oth) (by kernel_rfl) ?_
  intro w5 St
  replace kp := St.has (by omega) kp
  replace kg1 := St.has (by omega) kg1
  replace HW := HW.stT (by decide) (by decide) (by decide) kg2 St
  replace GG := GG.store St bg2
  replace kg2 := St.new
  clear St
  refine mv 7 (vTr) ?_
  refine nr ?_; intro U h; simp only [z0, z1] at h; subst h
  refine wpList_nil (ja (wp_seq (wp_region_lit (mv 15 (vTr) (sv 16 (vFa) (jU _ _ rfl true rfl) (wpList_nil (ja (wp_cond_false rfl (wp_skip (ja (wp_seq (wp_seq (wp_region_lit (mv 18 (.slice ao l.length cap) (sv 19 (iK ((l.length : Nat) : Int)) (jG Try.underlying36 _ rfl _ _ _ rfl _) ?_)))))))))))))))
  refine sv 20 (vTr) (jD 3 _ _ _ rfl ((l.length : Nat) : Int) 4096 rfl rfl true (by first | exact decide_eq_true (by omega) | exact decide_eq_false (by omega)) _) (wpList_nil (ja (wp_cond_true rfl (wp_seq (wp_region_lit (sv 21 (.agg (c46 0 zF 0 false zF zF 0 0 0 0 0 Sl.nil Sl.nil zF 0 zF Sl.nil 0 0 Sl.nil)) (jA 46 _ rfl [] rfl _ (by kernel_rfl)) ?_))))))
  refine jo rfl rfl 46 _ _ rfl g1 0 rfl (.agg (c46 0 zF 0 false zF zF 0 0 0 0 0 Sl.nil Sl.nil zF 0 zF Sl.nil 0 0 Sl.nil)) rfl 46 _ kg1 (c46 0 zF 0 false zF zF 0 0 0 0 0 Sl.nil Sl.nil zF 0 zF Sl.nil 0 0 Sl.nil) rfl (by kernel_rfl) (nlB rfl) (by kernel_rfl) (c46 0 zF 0 false zF zF 0 0 0 0 0 Sl.nil Sl.nil zF 0 zF Sl.nil 0 0 Sl.nil) (by kernel_rfl) ?_
  intro w7 St
  replace kp := St.has (by omega) kp
  replace kg2 := St.has (by omega) kg2
  replace HW := HW.stT (by decide) (by decide) (by decide) kg1 St
  replace GG := GG.store St bg1
  replace kg1 := St.new
  clear St
  refine mv 5 (iK 4) (wpList_nil (ja (wp_ret (jL ?_))))
  refine bodyPost_ret (jI Try.results16 _ _ g1 46 _ (0, 0) _ rfl (iK 4) rfl kg1 Try.underlying46 rfl (by kernel_rfl)) rfl ?_
  exact ⟨rfl, GG⟩
theorem ZY (w : World) (p wp B : Nat) (id : Nat → Nat) (up : Bool) (mi mn pi pn : Int) (oth : Nat → Nat) (ro : Option Addr) (rc : Nat) (q : List RV) (k c : Nat) (H : EW w p wp B id up true mi mn pi pn oth ro rc q k c) (hk : k + q.length ≤ 100000) (hc : c ≤ 100000) (ao : Option Addr) (cap : Nat) (l : List Nat) (HB : NC w .u8 ao cap l) (hne : ∀ ad, ao = some ad → 0 < l.length → ad.block ∉ p :: wp :: blk ro) (hl : l.length ≤ 4096) : Calls Try.prog 16 #[pK p 0, .slice ao l.length cap] w fun e w' => ∃ ao2 cap2 y f, e = .returned (.tuple #[.agg (frA f), iK 0]) ∧ FV w' ⟨2, zF, mi, mn, pi, pn, ((k + (q ++ [y]).length : Nat) : Int), l⟩ f ∧ y.l = l ∧ GroS (p :: wp :: blk ro) w w' ∧ EW w' p wp B id up true mi mn pi pn oth ao2 cap2 (q ++ [y]) k c ∧ (∀ ad, y.ao = some ad → w.heap.size ≤ ad.block) ∧ Kept w.heap.size ro ao2 := by
  refine jq Try.func16 rfl Try.ntmps16 [pK p 0, .slice ao l.length cap] ?_
  intro U h; simp only [List.length_cons, List.length_nil, List.cons_append, List.nil_append, Nat.reduceAdd, Nat.reduceSub, List.reduceReplicate] at h; subst h
  have GG := GroS.refl (p :: wp :: blk ro) w
  have kp := H.box
  have HW := H.win
  have hpl := jm kp
  have HL := HB
  have hpn := H.win.notT H.box (by decide) (by decide)
  have hlt := HB.lt
  refine wp_seq (wp_region_lit ?_)
  refine js 4 rfl rfl 46 rfl _ zv46 _ rfl ?_
  intro w1 g1 G eg1 kg1
  have bg1 := jz GG eg1
  have dpg1 := jf kp eg1
  replace kp := G.has kp
  replace HW := HW.gro G
  replace HL := HL.gro G
  replace GG := GG.tg G
  clear G eg1
  refine mv 5 (iK 0) (wpList_nil (ja (wp_seq (wp_seq (wp_region_lit (mv 11 (pK p 0) ?_))))))
  refine jC 12 rfl rfl _ 24 Try.call24 rfl rfl _ rfl [pK p 0] rfl (yS _ p wp B id up mi mn pi pn oth ro rc q k c ⟨kp, HW⟩) ?_
  intro w2 G
  replace kp := G.has kp
  replace kg1 := G.has kg1
  replace HW := HW.gro G
  replace HL := HL.gro G
  replace GG := GG.tg G
  clear G
  refine mv 10 (.tuple #[.agg (c23 oth), vTr]) (mv 13 (.agg (c23 oth)) (mv 14 (vTr) ?_))
  refine js 6 rfl rfl 23 rfl _ zv23 _ rfl ?_
  intro w3 g2 G eg2 kg2
  have bg2 := jz GG eg2
  have dpg2 := jf kp eg2
  have dg1g2 := jf kg1 eg2
  replace kp := G.has kp
  replace kg1 := G.has kg1
  replace HW := HW.gro G
  replace HL := HL.gro G
  replace GG := GG.tg G
  clear G eg2
  refine jo rfl rfl 23 _ _ rfl g2 0 rfl (.agg (c23 oth)) rfl 23 _ kg2 (c23 oth) rfl (by kernel_rfl) (nlB rfl) (by kernel_rfl) (c23 oth) (by kernel_rfl) ?_
  intro w5 St
  replace kp := St.has (by omega) kp
  replace kg1 := St.has (by omega) kg1
  replace HW := HW.stT (by decide) (by decide) (by decide) kg2 St
  replace HL := ((GroS.refl [g2] _).st St (.inr (by simp))).nc HL (fun ad ha h0 hm => by cases List.mem_singleton.1 hm; have := hlt ad ha h0; omega)
  replace GG := GG.st St (.inl bg2)
  replace kg2 := St.new
  clear St
  refine mv 7 (vTr) ?_
  refine nr ?_; intro U h; simp only [z0, z1] at h; subst h
  refine wpList_nil (ja (wp_seq (wp_region_lit (mv 15 (vTr) (sv 16 (vFa) (jU _ _ rfl true rfl) (wpList_nil (ja (wp_cond_false rfl (wp_skip (ja (wp_seq (wp_seq (wp_region_lit (mv 18 (.slice ao l.length cap) (sv 19 (iK ((l.length : Nat) : Int)) (jG Try.underlying36 _ rfl _ _ _ rfl _) ?_)))))))))))))))
  refine sv 20 (vFa) (jD 3 _ _ _ rfl ((l.length : Nat) : Int) 4096 rfl rfl false (by first | exact decide_eq_true (by omega) | exact decide_eq_false (by omega)) _) (wpList_nil (ja (wp_cond_false rfl (wp_skip (ja (wp_seq (wp_region_lit (mv 23 (pK p 0) (sv 24 (pK p 0) (jl _ rfl _ rfl) (sv 25 (pK p 38) (jc 98 _ 6 rfl _ _ rfl _) (sv 26 (pK wp 0) (je 95 _ rfl p 38 rfl 98 _ kp (na95 _) _ rfl) ?_)))))))))))
  refine nr ?_; intro U h; simp only [z0, z1] at h; subst h
  refine mv 27 (.slice ao l.length cap) ?_
  refine jt 28 rfl rfl _ 40 Try.call40 rfl rfl _ rfl [pK wp 0, .slice ao l.length cap] rfl (Yy _ wp B ro rc q k c HW hk hc ao cap l HL (fun ad ha h0 hm => hne ad ha h0 (List.mem_cons_of_mem _ (List.mem_cons_of_mem _ hm))) (by omega)) (fun _ _ ⟨_, _, _, he, _⟩ => ⟨_, he⟩) ?_
  rintro v w6 ⟨ao2, cap2, y, he, hyl, G, HW2, HY, hkp⟩
  cases he
  replace HL := G.nc HL (fun ad ha h0 hm => hne ad ha h0 (List.mem_cons_of_mem _ hm))
  replace kp := G.has kp (HW.notT kp (by decide) (by decide))
  replace kg1 := G.has kg1 (HW.notT kg1 (by decide) (by decide))
  replace kg2 := G.has kg2 (HW.notT kg2 (by decide) (by decide))
  replace hkp := hkp.mono GG.size
  have hy0 : ∀ ad, y.ao = some ad → w.heap.size ≤ ad.block := fun ad ha => Nat.le_trans GG.size (HY.ge ad ha).1
  replace GG := GG.trans (G.mono (fun _ h => List.mem_cons_of_mem _ h))
  clear G HW HY
  refine mv 22 (.tuple #[iK ((k + (q ++ [y]).length : Nat) : Int), iK 0]) (mv 29 (iK ((k + (q ++ [y]).length : Nat) : Int)) (mv 30 (iK 0) (mv 8 (iK ((k + (q ++ [y]).length : Nat) : Int)) (mv 9 (iK 0) ?_))))
  refine wpList_nil (ja (wp_seq (wp_region_lit (mv 31 (pK p 0) (mv 32 (iK ((k + (q ++ [y]).length : Nat) : Int)) ?_)))))
  refine nr ?_; intro U h; simp only [z0, z1] at h; subst h
  refine mv 33 (.slice ao l.length cap) ?_
  refine jt 34 rfl rfl _ 38 Try.call38 rfl rfl _ rfl [pK p 0, iK ((k + (q ++ [y]).length : Nat) : Int), .slice ao l.length cap] rfl (Jk _ p wp B id up true mi mn pi pn oth ao2 cap2 (q ++ [y]) k c ⟨kp, HW2⟩ ((k + (q ++ [y]).length : Nat) : Int) ao cap l HL (by omega)) (fun _ _ ⟨_, _, _, _, _, he, _⟩ => ⟨_, he⟩) ?_
  rintro v w7 ⟨s1g, s2g, s3g, aog, capg, he, HVg, G⟩
  cases he
  replace kp := G.has kp
  replace kg1 := G.has kg1
  replace kg2 := G.has kg2
  replace HW2 := HW2.gro G
  replace HL := HL.gro G
  replace GG := GG.tg G
  clear G
  refine mv 35 (iK 0) ?_
  refine jo rfl rfl 46 _ _ rfl g1 0 rfl (.agg (c46 2 zF 0 false zF zF ((k + (q ++ [y]).length : Nat) : Int) mi mn pi pn s1g s2g zF 0 zF s3g 0 0 ⟨aog, l.length, capg⟩)) rfl 46 _ kg1 (c46 2 zF 0 false zF zF ((k + (q ++ [y]).length : Nat) : Int) mi mn pi pn s1g s2g zF 0 zF s3g 0 0 ⟨aog, l.length, capg⟩) rfl (by kernel_rfl) (nlB rfl) (by kernel_rfl) (c46 2 zF 0 false zF zF ((k + (q ++ [y]).length : Nat) : Int) mi mn pi pn s1g s2g zF 0 zF s3g 0 0 ⟨aog, l.length, capg⟩) (by kernel_rfl) ?_
  intro w9 St
  replace kp := St.has (by omega) kp
  replace kg2 := St.has (by omega) kg2
  replace HW2 := HW2.stT (by decide) (by decide) (by decide) kg1 St
  replace HL := ((GroS.refl [g1] _).st St (.inr (by simp))).nc HL (fun ad ha h0 hm => by cases List.mem_singleton.1 hm; have := hlt ad ha h0; omega)
  replace HVg := HVg.no5 ((GroS.refl [g1] _).st St (.inr (by simp))) (jv kg1 (by decide))
  replace GG := GG.st St (.inl bg1)
  replace kg1 := St.new
  clear St
  refine mv 5 (iK 0) (wpList_nil (ja (wp_ret ?_)))
  refine bodyPost_ret (jI Try.results16 _ _ g1 46 _ (0, 0) _ rfl (iK 0) rfl kg1 Try.underlying46 rfl (by kernel_rfl)) rfl ?_
  refine ⟨ao2, cap2, y, _, rfl, HVg, hyl, GG, ⟨kp, HW2⟩, hy0, hkp⟩
end Go.Proofs.Ytlfanecaglbomaa
