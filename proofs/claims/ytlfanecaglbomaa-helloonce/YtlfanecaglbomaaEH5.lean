/- The program's end: Data and Ack, Hear. -/
import Derived.Test.YtlfanecaglbomaaEH4
namespace Go.Proofs.Ytlfanecaglbomaa
set_option maxRecDepth 100000
set_option maxHeartbeats 4000000
open Go.RowKit
theorem uv (w : World) (p wp B : Nat) (id : Nat → Nat) (up op : Bool) (mi mn pi pn : Int) (oth : Nat → Nat) (ro : Option Addr) (rc : Nat) (q : List RV) (k c : Nat) (H : EW w p wp B id up op mi mn pi pn oth ro rc q k c) (b : Value) (hb : NoB b) : Calls Try.prog 45 #[pK p 0, b] w (HearP w p id (p :: wp :: blk ro) (txb q) (⟨up, op, mi, mn, pi, pn, oth, k, (q.map (·.l)), c⟩, PT.no)) := by
  refine jq Try.func45 rfl Try.ntmps45 [pK p 0, b] ?_
  intro U h; simp only [List.length_cons, List.length_nil, List.cons_append, List.nil_append, Nat.reduceAdd, Nat.reduceSub, List.reduceReplicate] at h; subst h
  have GG := Gro.refl w
  have kp := H.box
  have HW := H.win
  have hpl := jm kp
  refine wp_seq (wp_region_lit ?_)
  refine js 4 rfl rfl 59 rfl _ zv59 _ rfl ?_
  intro w1 g1 G eg1 kg1
  have bg1 := jh GG eg1
  have dpg1 := jf kp eg1
  replace kp := G.has kp
  replace HW := HW.gro G
  replace GG := GG.trans G
  clear G eg1
  refine wpList_nil (ja (wp_seq (wp_seq (wp_region_lit (mv 9 (b) (wpList_nil (ja (wp_block (wp_seq (wp_region_lit (sv 10 (.tuple #[.agg (c125 0 0 0 0 0 Sl.nil), vFa]) (jx _ 106 125 true rfl b _ rfl (hb.t2 _)) ?_)))))))))))
  refine nr ?_; intro U h; simp only [z0, z1] at h; subst h
  refine mv 11 (vFa) (mv 12 (.agg (c125 0 0 0 0 0 Sl.nil)) (wpList_nil (ja (wp_cond_false rfl (wp_seq (wp_region_lit (sv 41 (.tuple #[.agg (c129 0 0 0 0 0), vFa]) (jx _ 106 129 true rfl b _ rfl (hb.t3 _)) ?_)))))))
  refine nr ?_; intro U h; simp only [z0, z1] at h; subst h
  refine mv 42 (vFa) (mv 43 (.agg (c129 0 0 0 0 0)) (wpList_nil (ja (wp_cond_false rfl (wp_skip (jQ (ja (wp_seq (wp_region_lit (sv 63 (.agg (c59 false false Sl.nil false Sl.nil)) (jA 59 _ rfl [] rfl _ (by kernel_rfl)) ?_))))))))))
  refine nr ?_; intro U h; simp only [z0, z1] at h; subst h
  refine jo rfl rfl 59 _ _ rfl g1 0 rfl (.agg (c59 false false Sl.nil false Sl.nil)) rfl 59 _ kg1 (c59 false false Sl.nil false Sl.nil) rfl (by kernel_rfl) (nlB rfl) (by kernel_rfl) (c59 false false Sl.nil false Sl.nil) (by kernel_rfl) ?_
  intro w3 St
  replace kp := St.has (by omega) kp
  replace HW := HW.stT (by decide) (by decide) (by decide) kg1 St
  replace GG := GG.store St bg1
  replace kg1 := St.new
  clear St
  refine wpList_nil (ja (wp_ret ?_))
  refine bodyPost_ret (results_cell_row Try.results45 _ _ g1 59 _ (0, 0) _ rfl kg1 Try.underlying59 rfl (by kernel_rfl)) rfl ?_
  exact ⟨_, (p :: wp :: blk ro), (txb q), rfl, TV.no _, ⟨wp, B, ro, rc, q, ⟨kp, HW⟩, rfl, rfl, rfl⟩, GroS.of GG, Fresh.refl _ _, Fresh.refl _ _⟩
theorem vF (w : World) (p wp B : Nat) (id : Nat → Nat) (up op : Bool) (mi mn pi pn : Int) (oth : Nat → Nat) (ro : Option Addr) (rc : Nat) (q : List RV) (k c : Nat) (H : EW w p wp B id up op mi mn pi pn oth ro rc q k c) (fi fn ti tn n : Int) (ao : Option Addr) (cap : Nat) (l : List Nat) (_HB : OB w 5 .u8 0 ao cap l) (hb : decide ((fi = pi ∧ fn = pn) ∧ ti = mi ∧ tn = mn) = false) : Calls Try.prog 45 #[pK p 0, .iface 125 (.agg (c125 fi fn ti tn n ⟨ao, l.length, cap⟩))] w (HearP w p id (p :: wp :: blk ro) (txb q) (⟨up, op, mi, mn, pi, pn, oth, k, (q.map (·.l)), c⟩, PT.no)) := by
  refine jq Try.func45 rfl Try.ntmps45 [pK p 0, .iface 125 (.agg (c125 fi fn ti tn n ⟨ao, l.length, cap⟩))] ?_
  intro U h; simp only [List.length_cons, List.length_nil, List.cons_append, List.nil_append, Nat.reduceAdd, Nat.reduceSub, List.reduceReplicate] at h; subst h
  have GG := Gro.refl w
  have kp := H.box
  have HW := H.win
  have hpl := jm kp
  refine wp_seq (wp_region_lit ?_)
  refine js 4 rfl rfl 59 rfl _ zv59 _ rfl ?_
  intro w1 g1 G eg1 kg1
  have bg1 := jh GG eg1
  have dpg1 := jf kp eg1
  replace kp := G.has kp
  replace HW := HW.gro G
  replace GG := GG.trans G
  clear G eg1
  refine wpList_nil (ja (wp_seq (wp_seq (wp_region_lit (mv 9 (.iface 125 (.agg (c125 fi fn ti tn n ⟨ao, l.length, cap⟩))) (wpList_nil (ja (wp_block (wp_seq (wp_region_lit (sv 10 (.tuple #[.agg (c125 fi fn ti tn n ⟨ao, l.length, cap⟩), vTr]) (jx _ 106 125 true rfl _ _ rfl) ?_)))))))))))
  refine nr ?_; intro U h; simp only [z0, z1] at h; subst h
  refine mv 11 (vTr) (mv 12 (.agg (c125 fi fn ti tn n ⟨ao, l.length, cap⟩)) (wpList_nil (ja (wp_cond_true rfl (wp_seq (wp_region_lit ?_))))))
  refine js 5 rfl rfl 125 rfl _ zv125 _ rfl ?_
  intro w2 g2 G eg2 kg2
  have bg2 := jh GG eg2
  have dpg2 := jf kp eg2
  have dg1g2 := jf kg1 eg2
  replace kp := G.has kp
  replace kg1 := G.has kg1
  replace HW := HW.gro G
  replace GG := GG.trans G
  clear G eg2
  refine nr ?_; intro U h; simp only [z0, z1] at h; subst h
  refine jo rfl rfl 125 _ _ rfl g2 0 rfl (.agg (c125 fi fn ti tn n ⟨ao, l.length, cap⟩)) rfl 125 _ kg2 (c125 fi fn ti tn n ⟨ao, l.length, cap⟩) rfl (by kernel_rfl) (nlB rfl) (by kernel_rfl) (c125 fi fn ti tn n ⟨ao, l.length, cap⟩) (by kernel_rfl) ?_
  intro w4 St
  replace kp := St.has (by omega) kp
  replace kg1 := St.has (by omega) kg1
  replace HW := HW.stT (by decide) (by decide) (by decide) kg2 St
  replace GG := GG.store St bg2
  replace kg2 := St.new
  clear St
  refine wpList_nil (ja (wp_seq (wp_seq (wp_region_lit (mv 13 (pK p 0) (sv 14 (pK g2 0) (jc 125 _ 0 rfl _ _ rfl _) (sv 15 (.agg (c29 fi fn)) (jk 29 _ rfl g2 0 2 rfl 125 _ kg2 _ Try.underlying29 rfl si29 _) ?_)))))))
  refine nr ?_; intro U h; simp only [z0, z1] at h; subst h
  refine sv 16 (pK g2 2) (jc 125 _ 1 rfl _ _ rfl _) (sv 17 (.agg (c29 ti tn)) (jk 29 _ rfl g2 2 2 rfl 125 _ kg2 _ Try.underlying29 rfl si29 _) ?_)
  refine jC 18 rfl rfl _ 58 Try.call58 rfl rfl _ rfl [pK p 0, .agg (c29 fi fn), .agg (c29 ti tn)] rfl ((show decide ((fi = pi ∧ fn = pn) ∧ ti = mi ∧ tn = mn) = false from hb) ▸ zz _ p wp B id up op mi mn pi pn oth ro rc q k c ⟨kp, HW⟩ fi fn ti tn) ?_
  intro w5 G
  replace kp := G.has kp
  replace kg1 := G.has kg1
  replace kg2 := G.has kg2
  replace HW := HW.gro G
  replace GG := GG.trans G
  clear G
  refine nr ?_; intro U h; simp only [z0, z1] at h; subst h
  refine sv 19 (vTr) (jU _ _ rfl false rfl) (wpList_nil (ja (wp_cond_true rfl (wp_seq (wp_region_lit (sv 20 (.agg (c59 false false Sl.nil false Sl.nil)) (jA 59 _ rfl [] rfl _ (by kernel_rfl)) ?_))))))
  refine jo rfl rfl 59 _ _ rfl g1 0 rfl (.agg (c59 false false Sl.nil false Sl.nil)) rfl 59 _ kg1 (c59 false false Sl.nil false Sl.nil) rfl (by kernel_rfl) (nlB rfl) (by kernel_rfl) (c59 false false Sl.nil false Sl.nil) (by kernel_rfl) ?_
  intro w7 St
  replace kp := St.has (by omega) kp
  replace kg2 := St.has (by omega) kg2
  replace HW := HW.stT (by decide) (by decide) (by decide) kg1 St
  replace GG := GG.store St bg1
  replace kg1 := St.new
  clear St
  refine wpList_nil (ja (wp_ret (jL (zh (jL ?_)))))
  refine bodyPost_ret (results_cell_row Try.results45 _ _ g1 59 _ (0, 0) _ rfl kg1 Try.underlying59 rfl (by kernel_rfl)) rfl ?_
  exact ⟨_, (p :: wp :: blk ro), (txb q), rfl, TV.no _, ⟨wp, B, ro, rc, q, ⟨kp, HW⟩, rfl, rfl, rfl⟩, GroS.of GG, Fresh.refl _ _, Fresh.refl _ _⟩
theorem vc (w : World) (p wp B : Nat) (id : Nat → Nat) (up op : Bool) (mi mn pi pn : Int) (oth : Nat → Nat) (ro : Option Addr) (rc : Nat) (q : List RV) (k c : Nat) (H : EW w p wp B id up op mi mn pi pn oth ro rc q k c) (fi fn ti tn n : Int) (ao : Option Addr) (cap : Nat) (l : List Nat) (HB : OB w 5 .u8 0 ao cap l) (hb : decide ((fi = pi ∧ fn = pn) ∧ ti = mi ∧ tn = mn) = true) (hn : n = ((c : Nat) : Int) + 1) (hk : k + q.length ≤ 100000) (hc2 : c + 1 ≤ 100000) (hc : c ≤ 100000) : Calls Try.prog 45 #[pK p 0, .iface 125 (.agg (c125 fi fn ti tn n ⟨ao, l.length, cap⟩))] w (HearP w p id (p :: wp :: blk ro) (txb q) (⟨up, true, mi, mn, pi, pn, oth, k, (q.map (·.l)), (c + 1)⟩, ⟨false, !op, l, true, [⟨3, zF, mi, mn, pi, pn, ((c + 1 : Nat) : Int), []⟩]⟩)) := by
  refine jq Try.func45 rfl Try.ntmps45 [pK p 0, .iface 125 (.agg (c125 fi fn ti tn n ⟨ao, l.length, cap⟩))] ?_
  intro U h; simp only [List.length_cons, List.length_nil, List.cons_append, List.nil_append, Nat.reduceAdd, Nat.reduceSub, List.reduceReplicate] at h; subst h
  have GG := GroS.refl [p, wp] w
  have kp := H.box
  have HW := H.win
  have hpl := jm kp
  have hwl := H.win.lt
  have HB5 := HB
  refine wp_seq (wp_region_lit ?_)
  refine js 4 rfl rfl 59 rfl _ zv59 _ rfl ?_
  intro w1 g1 G eg1 kg1
  have bg1 := jz GG eg1
  have dpg1 := jf kp eg1
  replace kp := G.has kp
  replace HW := HW.gro G
  replace HB5 := HB5.gro G
  replace GG := GG.tg G
  clear G eg1
  refine wpList_nil (ja (wp_seq (wp_seq (wp_region_lit (mv 9 (.iface 125 (.agg (c125 fi fn ti tn n ⟨ao, l.length, cap⟩))) (wpList_nil (ja (wp_block (wp_seq (wp_region_lit (sv 10 (.tuple #[.agg (c125 fi fn ti tn n ⟨ao, l.length, cap⟩), vTr]) (jx _ 106 125 true rfl _ _ rfl) ?_)))))))))))
  refine nr ?_; intro U h; simp only [z0, z1] at h; subst h
  refine mv 11 (vTr) (mv 12 (.agg (c125 fi fn ti tn n ⟨ao, l.length, cap⟩)) (wpList_nil (ja (wp_cond_true rfl (wp_seq (wp_region_lit ?_))))))
  refine js 5 rfl rfl 125 rfl _ zv125 _ rfl ?_
  intro w2 g2 G eg2 kg2
  have bg2 := jz GG eg2
  have dpg2 := jf kp eg2
  have dg1g2 := jf kg1 eg2
  replace kp := G.has kp
  replace kg1 := G.has kg1
  replace HW := HW.gro G
  replace HB5 := HB5.gro G
  replace GG := GG.tg G
  clear G eg2
  refine nr ?_; intro U h; simp only [z0, z1] at h; subst h
  refine jo rfl rfl 125 _ _ rfl g2 0 rfl (.agg (c125 fi fn ti tn n ⟨ao, l.length, cap⟩)) rfl 125 _ kg2 (c125 fi fn ti tn n ⟨ao, l.length, cap⟩) rfl (by kernel_rfl) (nlB rfl) (by kernel_rfl) (c125 fi fn ti tn n ⟨ao, l.length, cap⟩) (by kernel_rfl) ?_
  intro w4 St
  replace kp := St.has (by omega) kp
  replace kg1 := St.has (by omega) kg1
  replace HW := HW.stT (by decide) (by decide) (by decide) kg2 St
  replace HB5 := HB5.no5 ((GroS.refl [g2] _).st St (.inr (by simp))) (jv kg2 (by decide))
  replace GG := GG.st St (.inl bg2)
  replace kg2 := St.new
  clear St
  refine wpList_nil (ja (wp_seq (wp_seq (wp_region_lit (mv 13 (pK p 0) (sv 14 (pK g2 0) (jc 125 _ 0 rfl _ _ rfl _) (sv 15 (.agg (c29 fi fn)) (jk 29 _ rfl g2 0 2 rfl 125 _ kg2 _ Try.underlying29 rfl si29 _) ?_)))))))
  refine nr ?_; intro U h; simp only [z0, z1] at h; subst h
  refine sv 16 (pK g2 2) (jc 125 _ 1 rfl _ _ rfl _) (sv 17 (.agg (c29 ti tn)) (jk 29 _ rfl g2 2 2 rfl 125 _ kg2 _ Try.underlying29 rfl si29 _) ?_)
  refine jC 18 rfl rfl _ 58 Try.call58 rfl rfl _ rfl [pK p 0, .agg (c29 fi fn), .agg (c29 ti tn)] rfl ((show decide ((fi = pi ∧ fn = pn) ∧ ti = mi ∧ tn = mn) = true from hb) ▸ zz _ p wp B id up op mi mn pi pn oth ro rc q k c ⟨kp, HW⟩ fi fn ti tn) ?_
  intro w5 G
  replace kp := G.has kp
  replace kg1 := G.has kg1
  replace kg2 := G.has kg2
  replace HW := HW.gro G
  replace HB5 := HB5.gro G
  replace GG := GG.tg G
  clear G
  refine nr ?_; intro U h; simp only [z0, z1] at h; subst h
  refine sv 19 (vFa) (jU _ _ rfl true rfl) (wpList_nil (ja (wp_cond_false rfl (wp_skip (ja (wp_seq ?_))))))
  obtain ⟨M, eM⟩ : ∃ M, w5.heap.size = M := ⟨_, rfl⟩
  have hM := Nat.le_of_eq eM.symm
  have dpM : p < M := eM ▸ jm kp
  have dg1M : g1 < M := eM ▸ jm kg1
  have dg2M : g2 < M := eM ▸ jm kg2
  have hbM := eM ▸ GG.size
  clear eM
  refine jJ (A := ?Ap1) (fun L x => GroS [p, wp] w x ∧ x.heap[p]? = some (.cells (c98 id up (cond (L 1) true op) mi mn pi pn oth (some ⟨wp, 0, none⟩)) 98 (0, 0)) ∧ x.heap[g1]? = some (.cells (c59 false false Sl.nil false Sl.nil) 59 (0, 0)) ∧ x.heap[g2]? = some (.cells (c125 fi fn ti tn n ⟨ao, l.length, cap⟩) 125 (0, 0)) ∧ WX 121 (c121 ((k + q.length : Nat) : Int) ⟨ro, q.length, rc⟩ ((cond (L 8) (c + 1) c : Nat) : Int)) x wp B ro rc q ∧ OB x 5 .u8 0 ao cap l ∧ M ≤ x.heap.size) 11 [(0, 21), (1, 22), (2, 23), (3, 24), (4, 25), (5, 26), (6, 27), (7, 28), (8, 29), (9, 30), (10, 6)] [.val (pK p 0), .val (.bool (!op)), .val (pK p 0), .val (pK p 0), .val (pK p 38), .val (pK wp 0), .val (pK g2 4), .val (iK n), .val (vTr), .val (.agg (c59 false (!op) Sl.nil true Sl.nil)), alE M 59 (c59 false false Sl.nil false Sl.nil)] [] [10] follows (by kernel_rfl) rfl (by kernel_rfl) (by decide) ⟨GG.drew, (Gro.refl _).drew.has kp, (Gro.refl _).drew.has kg1, (Gro.refl _).drew.has kg2, HW.gro (Gro.refl _).drew, HB5.gro (Gro.refl _).drew, Nat.le_trans hM (Gro.refl _).drew.size⟩ ?hAp1 (ji (fun _ _ _ h _ G => ⟨h.1.tg G, G.has h.2.1, G.has h.2.2.1, G.has h.2.2.2.1, h.2.2.2.2.1.gro G, h.2.2.2.2.2.1.gro G, Nat.le_trans h.2.2.2.2.2.2 G.size⟩) ?o0p1 (jX ?o1p1 (ji (fun _ _ _ h _ G => ⟨h.1.tg G, G.has h.2.1, G.has h.2.2.1, G.has h.2.2.2.1, h.2.2.2.2.1.gro G, h.2.2.2.2.2.1.gro G, Nat.le_trans h.2.2.2.2.2.2 G.size⟩) ?o2p1 (ji (fun _ _ _ h _ G => ⟨h.1.tg G, G.has h.2.1, G.has h.2.2.1, G.has h.2.2.2.1, h.2.2.2.2.1.gro G, h.2.2.2.2.2.1.gro G, Nat.le_trans h.2.2.2.2.2.2 G.size⟩) ?o3p1 (ji (fun _ _ _ h _ G => ⟨h.1.tg G, G.has h.2.1, G.has h.2.2.1, G.has h.2.2.2.1, h.2.2.2.2.1.gro G, h.2.2.2.2.2.1.gro G, Nat.le_trans h.2.2.2.2.2.2 G.size⟩) ?o4p1 (ji (fun _ _ _ h _ G => ⟨h.1.tg G, G.has h.2.1, G.has h.2.2.1, G.has h.2.2.2.1, h.2.2.2.2.1.gro G, h.2.2.2.2.2.1.gro G, Nat.le_trans h.2.2.2.2.2.2 G.size⟩) ?o5p1 (ji (fun _ _ _ h _ G => ⟨h.1.tg G, G.has h.2.1, G.has h.2.2.1, G.has h.2.2.2.1, h.2.2.2.2.1.gro G, h.2.2.2.2.2.1.gro G, Nat.le_trans h.2.2.2.2.2.2 G.size⟩) ?o6p1 (ji (fun _ _ _ h _ G => ⟨h.1.tg G, G.has h.2.1, G.has h.2.2.1, G.has h.2.2.2.1, h.2.2.2.2.1.gro G, h.2.2.2.2.2.1.gro G, Nat.le_trans h.2.2.2.2.2.2 G.size⟩) ?o7p1 (jX ?o8p1 (ji (fun _ _ _ h _ G => ⟨h.1.tg G, G.has h.2.1, G.has h.2.2.1, G.has h.2.2.2.1, h.2.2.2.2.1.gro G, h.2.2.2.2.2.1.gro G, Nat.le_trans h.2.2.2.2.2.2 G.size⟩) ?o9p1 (ji (fun _ _ _ h _ G => ⟨h.1.tg G, G.has h.2.1, G.has h.2.2.1, G.has h.2.2.2.1, h.2.2.2.2.1.gro G, h.2.2.2.2.2.1.gro G, Nat.le_trans h.2.2.2.2.2.2 G.size⟩) ?o10p1 zc))))))))))) ?restp1
  case hAp1 =>
    intro ptrs
    simp only [full, foldSlots, filledE, postE, List.foldl_cons, List.foldl_nil, List.getD_cons_zero, List.getD_cons_succ, ju, vz,  List.set_cons_zero, List.set_cons_succ]
    exact rfl
  case o0p1 => exact fun _ _ _ _ _ _ _ _ => jj (v := pK p 0) _ rfl rfl rfl
  case o1p1 =>
    intro L ptrs x hx hL hed hno _
    have hk1 := hx.2.1
    rw [hL] at hk1
    have hw1 := hx.2.2.2.2.1
    have h8 : L 8 = false := hno 8 (by kernel_rfl)
    rw [h8] at hw1
    exact zw (.val (.bool (!op))) rfl _ 56 Try.call56 rfl rfl _ rfl [pK p 0] rfl ((zC x p wp B id up op mi mn pi pn oth ro rc q k c ⟨hk1, hw1⟩).mono fun e y ⟨he, G, HE⟩ => ⟨_, he, ⟨⟨hx.1.trans G.p1, HE.box, G.has hx.2.2.1 (by simp; omega), G.has hx.2.2.2.1 (by simp; omega), (by rw [show upd L 1 8 = false from h8]; exact HE.win), hx.2.2.2.2.2.1.no5 G (jv hk1 (by decide)), Nat.le_trans hx.2.2.2.2.2.2 G.size⟩, StM.valsX [0, 2, 3, 4, 5, 6, 7, 8, 9] [10] (by kernel_rfl) ⟨⟨_, rfl⟩, ⟨_, rfl⟩, ⟨_, rfl⟩, ⟨_, rfl⟩, ⟨_, rfl⟩, ⟨_, rfl⟩, ⟨_, rfl⟩, ⟨_, rfl⟩, ⟨_, rfl⟩, trivial⟩ (fun j hj u hp => by cases List.mem_singleton.1 hj; obtain ⟨g, h1, h2, h3⟩ := hp; exact ⟨g, h1, h2, G.has h3 (by simp; omega)⟩)⟩, rfl⟩)
  case o2p1 => exact fun _ _ _ _ _ _ _ _ => jj (v := pK p 0) _ rfl rfl rfl
  case o3p1 => exact fun _ _ x hx _ _ _ _ => jb (v := pK p 0) rfl (jl _ rfl _ rfl)
  case o4p1 => exact fun _ _ x hx _ _ _ _ => jb (v := pK p 38) rfl (jc 98 _ 6 rfl _ _ rfl _)
  case o5p1 => exact fun _ _ x hx _ _ _ _ => jb (v := pK wp 0) rfl (je 95 _ rfl p 38 rfl 98 _ hx.2.1 (na95 _) _ rfl)
  case o6p1 => exact fun _ _ x hx _ _ _ _ => jb (v := pK g2 4) rfl (jc 125 _ 2 rfl _ _ rfl _)
  case o7p1 => exact fun _ _ x hx _ _ _ _ => jb (v := iK n) rfl (je 2 _ rfl g2 4 rfl 125 _ hx.2.2.2.1 (na2 _) _ rfl)
  case o8p1 =>
    intro L ptrs x hx hL hed hno _
    have hw1 := hx.2.2.2.2.1
    rw [hL] at hw1
    exact zw (.val (vTr)) rfl _ 59 Try.call59 rfl rfl _ rfl [pK wp 0, iK n] rfl ((YV x wp B ro rc q k c hw1 hk hc n hn).mono fun e y ⟨he, G, HE⟩ => ⟨_, he, ⟨⟨hx.1.trans (G.mono (by simp)), G.has hx.2.1 (uD hx.2.1 hw1.box (by decide)), G.has hx.2.2.1 (uD hx.2.2.1 hw1.box (by decide)), G.has hx.2.2.2.1 (uD hx.2.2.2.1 hw1.box (by decide)), HE, hx.2.2.2.2.2.1.no5 G (jv hw1.box (by decide)), Nat.le_trans hx.2.2.2.2.2.2 G.size⟩, StM.valsX [0, 1, 2, 3, 4, 5, 6, 7, 9] [10] (by kernel_rfl) ⟨⟨_, rfl⟩, ⟨_, rfl⟩, ⟨_, rfl⟩, ⟨_, rfl⟩, ⟨_, rfl⟩, ⟨_, rfl⟩, ⟨_, rfl⟩, ⟨_, rfl⟩, ⟨_, rfl⟩, trivial⟩ (fun j hj u hp => by cases List.mem_singleton.1 hj; obtain ⟨g, h1, h2, h3⟩ := hp; exact ⟨g, h1, h2, G.has h3 (by simp; omega)⟩)⟩, rfl⟩)
  case o9p1 => exact fun _ _ x hx _ _ _ _ => jb (v := .agg (c59 false (!op) Sl.nil true Sl.nil)) rfl (jA 59 _ rfl [(1, .bool (!op)), (3, vTr)] rfl _ (by kernel_rfl))
  case o10p1 =>
    intro _ _ x hx _ _ _ _
    exact uB rfl 59 rfl _ (zv59 _) (c59 false false Sl.nil false Sl.nil) rfl hx.2.2.2.2.2.2
  intro ptrs w6 HJ hxE
  simp only [List.drop_succ_cons, List.drop_zero]
  clear GG kp kg1 kg2 HW HB5 hM
  obtain ⟨GG, kp, kg1, kg2, HW, HB5, hM⟩ := HJ
  replace kp : w6.heap[p]? = some (.cells (c98 id up true mi mn pi pn oth (some ⟨wp, 0, none⟩)) 98 (0, 0)) := kp
  replace HW : WX 121 (c121 ((k + q.length : Nat) : Int) ⟨ro, q.length, rc⟩ ((c + 1 : Nat) : Int)) w6 wp B ro rc q := HW
  obtain ⟨⟨gt, hv, hgt, kgt⟩, _⟩ := hxE
  simp only [hv]
  clear hv hM
  have dpgt := Nat.lt_of_lt_of_le dpM hgt
  have dg1gt := Nat.lt_of_lt_of_le dg1M hgt
  have dg2gt := Nat.lt_of_lt_of_le dg2M hgt
  have bgt := Nat.le_trans hbM hgt
  refine jo rfl rfl 59 _ _ rfl gt 0 rfl (.agg (c59 false (!op) Sl.nil true Sl.nil)) rfl 59 _ kgt (c59 false (!op) Sl.nil true Sl.nil) rfl (by kernel_rfl) (nlB rfl) (by kernel_rfl) (c59 false (!op) Sl.nil true Sl.nil) (by kernel_rfl) ?_
  intro w8 St
  replace kp := St.has (by omega) kp
  replace kg1 := St.has (by omega) kg1
  replace kg2 := St.has (by omega) kg2
  replace HW := HW.stT (by decide) (by decide) (by decide) kgt St
  replace HB5 := HB5.no5 ((GroS.refl [gt] _).st St (.inr (by simp))) (jv kgt (by decide))
  replace GG := GG.st St (.inl bgt)
  replace kgt := St.new
  clear St
  refine wpList_nil (ja (wp_seq (wp_seq (wp_region_lit (sv 31 (pK gt 3) (jc 59 _ 3 rfl _ _ rfl _) (sv 32 (vTr) (je 4 _ rfl gt 3 rfl 59 _ kgt (na4 _) _ rfl) ?_))))))
  refine nr ?_; intro U h; simp only [z0, z1] at h; subst h
  refine wpList_nil (ja (wp_cond_true rfl (wp_region_lit (sv 33 (pK g2 5) (jc 125 _ 3 rfl _ _ rfl _) (sv 34 (.slice ao l.length cap) (je 36 _ rfl g2 5 rfl 125 _ kg2 (na36 _) _ rfl) (sv 35 (pK gt 2) (jc 59 _ 2 rfl _ _ rfl _) ?_))))))
  refine nr ?_; intro U h; simp only [z0, z1] at h; subst h
  refine jo rfl rfl 36 _ _ rfl gt 2 rfl (.slice ao l.length cap) rfl 59 _ kgt #[.slice ao l.length cap] rfl (by kernel_rfl) (nlB rfl) (by kernel_rfl) (c59 false (!op) ⟨ao, l.length, cap⟩ true Sl.nil) (by kernel_rfl) ?_
  intro w10 St
  replace kp := St.has (by omega) kp
  replace kg1 := St.has (by omega) kg1
  replace kg2 := St.has (by omega) kg2
  replace HW := HW.stT (by decide) (by decide) (by decide) kgt St
  replace HB5 := HB5.no5 ((GroS.refl [gt] _).st St (.inr (by simp))) (jv kgt (by decide))
  replace GG := GG.st St (.inl bgt)
  replace kgt := St.new
  clear St
  refine wpList_nil (ja (wp_seq (wp_region_lit (mv 36 (pK p 0) ?_))))
  refine jt 37 rfl rfl _ 57 Try.call57 rfl rfl _ rfl [pK p 0] rfl (uT _ p wp B id up true mi mn pi pn oth ro rc q k (c + 1) ⟨kp, HW⟩ hk (by omega)) (fun _ _ ⟨_, _, _, _, _, he, _⟩ => ⟨_, he⟩) ?_
  rintro v w11 ⟨s1g, s2g, s3g, aog, capg, he, HVg, G⟩
  cases he
  replace kp := G.has kp
  replace kg1 := G.has kg1
  replace kg2 := G.has kg2
  replace kgt := G.has kgt
  replace HW := HW.gro G
  replace HB5 := HB5.gro G
  replace GG := GG.tg G
  clear G
  refine zR 38 rfl rfl 50 1 _ rfl [(0, .agg (c46 3 zF 0 false zF zF (((c + 1) : Nat) : Int) mi mn pi pn s1g s2g zF 0 zF s3g 0 0 ⟨aog, 0, capg⟩))] rfl (c46 3 zF 0 false zF zF (((c + 1) : Nat) : Int) mi mn pi pn s1g s2g zF 0 zF s3g 0 0 ⟨aog, 0, capg⟩) 46 (by kernel_rfl) ?_
  intro w12 g3 G eg3 kg3
  have bg3 := jz GG eg3
  have dpg3 := jf kp eg3
  have dg1g3 := jf kg1 eg3
  have dg2g3 := jf kg2 eg3
  have dgtg3 := jf kgt eg3
  replace kp := G.has kp
  replace kg1 := G.has kg1
  replace kg2 := G.has kg2
  replace kgt := G.has kgt
  replace HW := HW.gro G
  replace HB5 := HB5.gro G
  replace HVg := HVg.gro G
  replace GG := GG.tg G
  clear G eg3
  refine nr ?_; intro U h; simp only [z0, z1] at h; subst h
  refine sv 39 (pK gt 4) (jc 59 _ 4 rfl _ _ rfl _) ?_
  refine jo rfl rfl 50 _ _ rfl gt 4 rfl (.slice (some ⟨g3, 0, none⟩) 1 1) rfl 59 _ kgt #[.slice (some ⟨g3, 0, none⟩) 1 1] rfl (by kernel_rfl) (nlB rfl) (by kernel_rfl) (c59 false (!op) ⟨ao, l.length, cap⟩ true ⟨some ⟨g3, 0, none⟩, 1, 1⟩) (by kernel_rfl) ?_
  intro w14 St
  replace kp := St.has (by omega) kp
  replace kg1 := St.has (by omega) kg1
  replace kg2 := St.has (by omega) kg2
  replace kg3 := St.has (by omega) kg3
  replace HW := HW.stT (by decide) (by decide) (by decide) kgt St
  replace HB5 := HB5.no5 ((GroS.refl [gt] _).st St (.inr (by simp))) (jv kgt (by decide))
  replace HVg := HVg.no5 ((GroS.refl [gt] _).st St (.inr (by simp))) (jv kgt (by decide))
  replace GG := GG.st St (.inl bgt)
  replace kgt := St.new
  clear St
  refine wpList_nil (ja (wp_seq (wp_region_lit (sv 40 (.agg (c59 false (!op) ⟨ao, l.length, cap⟩ true ⟨some ⟨g3, 0, none⟩, 1, 1⟩)) (jk 59 _ rfl gt 0 5 rfl 59 _ kgt _ Try.underlying59 rfl si59 _) ?_))))
  refine jo rfl rfl 59 _ _ rfl g1 0 rfl (.agg (c59 false (!op) ⟨ao, l.length, cap⟩ true ⟨some ⟨g3, 0, none⟩, 1, 1⟩)) rfl 59 _ kg1 (c59 false (!op) ⟨ao, l.length, cap⟩ true ⟨some ⟨g3, 0, none⟩, 1, 1⟩) rfl (by kernel_rfl) (nlB rfl) (by kernel_rfl) (c59 false (!op) ⟨ao, l.length, cap⟩ true ⟨some ⟨g3, 0, none⟩, 1, 1⟩) (by kernel_rfl) ?_
  intro w16 St
  replace kp := St.has (by omega) kp
  replace kg2 := St.has (by omega) kg2
  replace kgt := St.has (by omega) kgt
  replace kg3 := St.has (by omega) kg3
  replace HW := HW.stT (by decide) (by decide) (by decide) kg1 St
  replace HB5 := HB5.no5 ((GroS.refl [g1] _).st St (.inr (by simp))) (jv kg1 (by decide))
  replace HVg := HVg.no5 ((GroS.refl [g1] _).st St (.inr (by simp))) (jv kg1 (by decide))
  replace GG := GG.st St (.inl bg1)
  replace kg1 := St.new
  clear St
  refine wpList_nil (ja (wp_ret (zh (jL ?_))))
  refine bodyPost_ret (results_cell_row Try.results45 _ _ g1 59 _ (0, 0) _ rfl kg1 Try.underlying59 rfl (by kernel_rfl)) rfl ?_
  exact ⟨_, (p :: wp :: blk ro), (txb q), rfl, ⟨ao, cap, _, _, [(_, _)], rfl, HB5, rfl, LF.one (f := pfr ⟨3, zF, mi, mn, pi, pn, ((c + 1 : Nat) : Int), []⟩ s1g s2g s3g ⟨aog, 0, capg⟩) kg3 (Nat.zero_le _) HVg⟩, ⟨wp, B, ro, rc, q, ⟨kp, HW⟩, rfl, rfl, rfl⟩, GG.p2, Fresh.refl _ _, Fresh.refl _ _⟩
theorem yP (w : World) (p wp B : Nat) (id : Nat → Nat) (up op : Bool) (mi mn pi pn : Int) (oth : Nat → Nat) (ro : Option Addr) (rc : Nat) (q : List RV) (k c : Nat) (H : EW w p wp B id up op mi mn pi pn oth ro rc q k c) (fi fn ti tn n : Int) (ao : Option Addr) (cap : Nat) (l : List Nat) (HB : OB w 5 .u8 0 ao cap l) (hb : decide ((fi = pi ∧ fn = pn) ∧ ti = mi ∧ tn = mn) = true) (hn : n ≠ ((c : Nat) : Int) + 1) (hk : k + q.length ≤ 100000) (_hc2 : c + 1 ≤ 100000) (hc : c ≤ 100000) : Calls Try.prog 45 #[pK p 0, .iface 125 (.agg (c125 fi fn ti tn n ⟨ao, l.length, cap⟩))] w (HearP w p id (p :: wp :: blk ro) (txb q) (⟨up, true, mi, mn, pi, pn, oth, k, (q.map (·.l)), c⟩, ⟨false, !op, [], false, [⟨3, zF, mi, mn, pi, pn, ((c : Nat) : Int), []⟩]⟩)) := by
  refine jq Try.func45 rfl Try.ntmps45 [pK p 0, .iface 125 (.agg (c125 fi fn ti tn n ⟨ao, l.length, cap⟩))] ?_
  intro U h; simp only [List.length_cons, List.length_nil, List.cons_append, List.nil_append, Nat.reduceAdd, Nat.reduceSub, List.reduceReplicate] at h; subst h
  have GG := GroS.refl [p, wp] w
  have kp := H.box
  have HW := H.win
  have hpl := jm kp
  have hwl := H.win.lt
  have HB5 := HB
  refine wp_seq (wp_region_lit ?_)
  refine js 4 rfl rfl 59 rfl _ zv59 _ rfl ?_
  intro w1 g1 G eg1 kg1
  have bg1 := jz GG eg1
  have dpg1 := jf kp eg1
  replace kp := G.has kp
  replace HW := HW.gro G
  replace HB5 := HB5.gro G
  replace GG := GG.tg G
  clear G eg1
  refine wpList_nil (ja (wp_seq (wp_seq (wp_region_lit (mv 9 (.iface 125 (.agg (c125 fi fn ti tn n ⟨ao, l.length, cap⟩))) (wpList_nil (ja (wp_block (wp_seq (wp_region_lit (sv 10 (.tuple #[.agg (c125 fi fn ti tn n ⟨ao, l.length, cap⟩), vTr]) (jx _ 106 125 true rfl _ _ rfl) ?_)))))))))))
  refine nr ?_; intro U h; simp only [z0, z1] at h; subst h
  refine mv 11 (vTr) (mv 12 (.agg (c125 fi fn ti tn n ⟨ao, l.length, cap⟩)) (wpList_nil (ja (wp_cond_true rfl (wp_seq (wp_region_lit ?_))))))
  refine js 5 rfl rfl 125 rfl _ zv125 _ rfl ?_
  intro w2 g2 G eg2 kg2
  have bg2 := jz GG eg2
  have dpg2 := jf kp eg2
  have dg1g2 := jf kg1 eg2
  replace kp := G.has kp
  replace kg1 := G.has kg1
  replace HW := HW.gro G
  replace HB5 := HB5.gro G
  replace GG := GG.tg G
  clear G eg2
  refine nr ?_; intro U h; simp only [z0, z1] at h; subst h
  refine jo rfl rfl 125 _ _ rfl g2 0 rfl (.agg (c125 fi fn ti tn n ⟨ao, l.length, cap⟩)) rfl 125 _ kg2 (c125 fi fn ti tn n ⟨ao, l.length, cap⟩) rfl (by kernel_rfl) (nlB rfl) (by kernel_rfl) (c125 fi fn ti tn n ⟨ao, l.length, cap⟩) (by kernel_rfl) ?_
  intro w4 St
  replace kp := St.has (by omega) kp
  replace kg1 := St.has (by omega) kg1
  replace HW := HW.stT (by decide) (by decide) (by decide) kg2 St
  replace HB5 := HB5.no5 ((GroS.refl [g2] _).st St (.inr (by simp))) (jv kg2 (by decide))
  replace GG := GG.st St (.inl bg2)
  replace kg2 := St.new
  clear St
  refine wpList_nil (ja (wp_seq (wp_seq (wp_region_lit (mv 13 (pK p 0) (sv 14 (pK g2 0) (jc 125 _ 0 rfl _ _ rfl _) (sv 15 (.agg (c29 fi fn)) (jk 29 _ rfl g2 0 2 rfl 125 _ kg2 _ Try.underlying29 rfl si29 _) ?_)))))))
  refine nr ?_; intro U h; simp only [z0, z1] at h; subst h
  refine sv 16 (pK g2 2) (jc 125 _ 1 rfl _ _ rfl _) (sv 17 (.agg (c29 ti tn)) (jk 29 _ rfl g2 2 2 rfl 125 _ kg2 _ Try.underlying29 rfl si29 _) ?_)
  refine jC 18 rfl rfl _ 58 Try.call58 rfl rfl _ rfl [pK p 0, .agg (c29 fi fn), .agg (c29 ti tn)] rfl ((show decide ((fi = pi ∧ fn = pn) ∧ ti = mi ∧ tn = mn) = true from hb) ▸ zz _ p wp B id up op mi mn pi pn oth ro rc q k c ⟨kp, HW⟩ fi fn ti tn) ?_
  intro w5 G
  replace kp := G.has kp
  replace kg1 := G.has kg1
  replace kg2 := G.has kg2
  replace HW := HW.gro G
  replace HB5 := HB5.gro G
  replace GG := GG.tg G
  clear G
  refine nr ?_; intro U h; simp only [z0, z1] at h; subst h
  refine sv 19 (vFa) (jU _ _ rfl true rfl) (wpList_nil (ja (wp_cond_false rfl (wp_skip (ja (wp_seq ?_))))))
  obtain ⟨M, eM⟩ : ∃ M, w5.heap.size = M := ⟨_, rfl⟩
  have hM := Nat.le_of_eq eM.symm
  have dpM : p < M := eM ▸ jm kp
  have dg1M : g1 < M := eM ▸ jm kg1
  have dg2M : g2 < M := eM ▸ jm kg2
  have hbM := eM ▸ GG.size
  clear eM
  refine jJ (A := ?Ap2) (fun L x => GroS [p, wp] w x ∧ x.heap[p]? = some (.cells (c98 id up (cond (L 1) true op) mi mn pi pn oth (some ⟨wp, 0, none⟩)) 98 (0, 0)) ∧ x.heap[g1]? = some (.cells (c59 false false Sl.nil false Sl.nil) 59 (0, 0)) ∧ x.heap[g2]? = some (.cells (c125 fi fn ti tn n ⟨ao, l.length, cap⟩) 125 (0, 0)) ∧ WX 121 (c121 ((k + q.length : Nat) : Int) ⟨ro, q.length, rc⟩ ((c : Nat) : Int)) x wp B ro rc q ∧ OB x 5 .u8 0 ao cap l ∧ M ≤ x.heap.size) 11 [(0, 21), (1, 22), (2, 23), (3, 24), (4, 25), (5, 26), (6, 27), (7, 28), (8, 29), (9, 30), (10, 6)] [.val (pK p 0), .val (.bool (!op)), .val (pK p 0), .val (pK p 0), .val (pK p 38), .val (pK wp 0), .val (pK g2 4), .val (iK n), .val (vFa), .val (.agg (c59 false (!op) Sl.nil false Sl.nil)), alE M 59 (c59 false false Sl.nil false Sl.nil)] [] [10] follows (by kernel_rfl) rfl (by kernel_rfl) (by decide) ⟨GG.drew, (Gro.refl _).drew.has kp, (Gro.refl _).drew.has kg1, (Gro.refl _).drew.has kg2, HW.gro (Gro.refl _).drew, HB5.gro (Gro.refl _).drew, Nat.le_trans hM (Gro.refl _).drew.size⟩ ?hAp2 (ji (fun _ _ _ h _ G => ⟨h.1.tg G, G.has h.2.1, G.has h.2.2.1, G.has h.2.2.2.1, h.2.2.2.2.1.gro G, h.2.2.2.2.2.1.gro G, Nat.le_trans h.2.2.2.2.2.2 G.size⟩) ?o0p2 (jX ?o1p2 (ji (fun _ _ _ h _ G => ⟨h.1.tg G, G.has h.2.1, G.has h.2.2.1, G.has h.2.2.2.1, h.2.2.2.2.1.gro G, h.2.2.2.2.2.1.gro G, Nat.le_trans h.2.2.2.2.2.2 G.size⟩) ?o2p2 (ji (fun _ _ _ h _ G => ⟨h.1.tg G, G.has h.2.1, G.has h.2.2.1, G.has h.2.2.2.1, h.2.2.2.2.1.gro G, h.2.2.2.2.2.1.gro G, Nat.le_trans h.2.2.2.2.2.2 G.size⟩) ?o3p2 (ji (fun _ _ _ h _ G => ⟨h.1.tg G, G.has h.2.1, G.has h.2.2.1, G.has h.2.2.2.1, h.2.2.2.2.1.gro G, h.2.2.2.2.2.1.gro G, Nat.le_trans h.2.2.2.2.2.2 G.size⟩) ?o4p2 (ji (fun _ _ _ h _ G => ⟨h.1.tg G, G.has h.2.1, G.has h.2.2.1, G.has h.2.2.2.1, h.2.2.2.2.1.gro G, h.2.2.2.2.2.1.gro G, Nat.le_trans h.2.2.2.2.2.2 G.size⟩) ?o5p2 (ji (fun _ _ _ h _ G => ⟨h.1.tg G, G.has h.2.1, G.has h.2.2.1, G.has h.2.2.2.1, h.2.2.2.2.1.gro G, h.2.2.2.2.2.1.gro G, Nat.le_trans h.2.2.2.2.2.2 G.size⟩) ?o6p2 (ji (fun _ _ _ h _ G => ⟨h.1.tg G, G.has h.2.1, G.has h.2.2.1, G.has h.2.2.2.1, h.2.2.2.2.1.gro G, h.2.2.2.2.2.1.gro G, Nat.le_trans h.2.2.2.2.2.2 G.size⟩) ?o7p2 (ji (fun _ _ _ h _ G => ⟨h.1.tg G, G.has h.2.1, G.has h.2.2.1, G.has h.2.2.2.1, h.2.2.2.2.1.gro G, h.2.2.2.2.2.1.gro G, Nat.le_trans h.2.2.2.2.2.2 G.size⟩) ?o8p2 (ji (fun _ _ _ h _ G => ⟨h.1.tg G, G.has h.2.1, G.has h.2.2.1, G.has h.2.2.2.1, h.2.2.2.2.1.gro G, h.2.2.2.2.2.1.gro G, Nat.le_trans h.2.2.2.2.2.2 G.size⟩) ?o9p2 (ji (fun _ _ _ h _ G => ⟨h.1.tg G, G.has h.2.1, G.has h.2.2.1, G.has h.2.2.2.1, h.2.2.2.2.1.gro G, h.2.2.2.2.2.1.gro G, Nat.le_trans h.2.2.2.2.2.2 G.size⟩) ?o10p2 zc))))))))))) ?restp2
  case hAp2 =>
    intro ptrs
    simp only [full, foldSlots, filledE, postE, List.foldl_cons, List.foldl_nil, List.getD_cons_zero, List.getD_cons_succ, ju, vz,  List.set_cons_zero, List.set_cons_succ]
    exact rfl
  case o0p2 => exact fun _ _ _ _ _ _ _ _ => jj (v := pK p 0) _ rfl rfl rfl
  case o1p2 =>
    intro L ptrs x hx hL hed hno _
    have hk1 := hx.2.1
    rw [hL] at hk1
    have hw1 := hx.2.2.2.2.1
    exact zw (.val (.bool (!op))) rfl _ 56 Try.call56 rfl rfl _ rfl [pK p 0] rfl ((zC x p wp B id up op mi mn pi pn oth ro rc q k c ⟨hk1, hw1⟩).mono fun e y ⟨he, G, HE⟩ => ⟨_, he, ⟨⟨hx.1.trans G.p1, HE.box, G.has hx.2.2.1 (by simp; omega), G.has hx.2.2.2.1 (by simp; omega), HE.win, hx.2.2.2.2.2.1.no5 G (jv hk1 (by decide)), Nat.le_trans hx.2.2.2.2.2.2 G.size⟩, StM.valsX [0, 2, 3, 4, 5, 6, 7, 8, 9] [10] (by kernel_rfl) ⟨⟨_, rfl⟩, ⟨_, rfl⟩, ⟨_, rfl⟩, ⟨_, rfl⟩, ⟨_, rfl⟩, ⟨_, rfl⟩, ⟨_, rfl⟩, ⟨_, rfl⟩, ⟨_, rfl⟩, trivial⟩ (fun j hj u hp => by cases List.mem_singleton.1 hj; obtain ⟨g, h1, h2, h3⟩ := hp; exact ⟨g, h1, h2, G.has h3 (by simp; omega)⟩)⟩, rfl⟩)
  case o2p2 => exact fun _ _ _ _ _ _ _ _ => jj (v := pK p 0) _ rfl rfl rfl
  case o3p2 => exact fun _ _ x hx _ _ _ _ => jb (v := pK p 0) rfl (jl _ rfl _ rfl)
  case o4p2 => exact fun _ _ x hx _ _ _ _ => jb (v := pK p 38) rfl (jc 98 _ 6 rfl _ _ rfl _)
  case o5p2 => exact fun _ _ x hx _ _ _ _ => jb (v := pK wp 0) rfl (je 95 _ rfl p 38 rfl 98 _ hx.2.1 (na95 _) _ rfl)
  case o6p2 => exact fun _ _ x hx _ _ _ _ => jb (v := pK g2 4) rfl (jc 125 _ 2 rfl _ _ rfl _)
  case o7p2 => exact fun _ _ x hx _ _ _ _ => jb (v := iK n) rfl (je 2 _ rfl g2 4 rfl 125 _ hx.2.2.2.1 (na2 _) _ rfl)
  case o8p2 =>
    intro _ _ x hx _ _ _ _
    exact zK (.val (vFa)) rfl _ 59 Try.call59 rfl rfl _ rfl [pK wp 0, iK n] rfl ((YW x wp B ro rc q k c hx.2.2.2.2.1 hk hc n hn).mono fun e w' ⟨he, hg⟩ => ⟨_, he, hg, rfl⟩)
  case o9p2 => exact fun _ _ x hx _ _ _ _ => jb (v := .agg (c59 false (!op) Sl.nil false Sl.nil)) rfl (jA 59 _ rfl [(1, .bool (!op)), (3, vFa)] rfl _ (by kernel_rfl))
  case o10p2 =>
    intro _ _ x hx _ _ _ _
    exact uB rfl 59 rfl _ (zv59 _) (c59 false false Sl.nil false Sl.nil) rfl hx.2.2.2.2.2.2
  intro ptrs w6 HJ hxE
  simp only [List.drop_succ_cons, List.drop_zero]
  clear GG kp kg1 kg2 HW HB5 hM
  obtain ⟨GG, kp, kg1, kg2, HW, HB5, hM⟩ := HJ
  replace kp : w6.heap[p]? = some (.cells (c98 id up true mi mn pi pn oth (some ⟨wp, 0, none⟩)) 98 (0, 0)) := kp
  obtain ⟨⟨gt, hv, hgt, kgt⟩, _⟩ := hxE
  simp only [hv]
  clear hv hM
  have dpgt := Nat.lt_of_lt_of_le dpM hgt
  have dg1gt := Nat.lt_of_lt_of_le dg1M hgt
  have dg2gt := Nat.lt_of_lt_of_le dg2M hgt
  have bgt := Nat.le_trans hbM hgt
  refine jo rfl rfl 59 _ _ rfl gt 0 rfl (.agg (c59 false (!op) Sl.nil false Sl.nil)) rfl 59 _ kgt (c59 false (!op) Sl.nil false Sl.nil) rfl (by kernel_rfl) (nlB rfl) (by kernel_rfl) (c59 false (!op) Sl.nil false Sl.nil) (by kernel_rfl) ?_
  intro w8 St
  replace kp := St.has (by omega) kp
  replace kg1 := St.has (by omega) kg1
  replace kg2 := St.has (by omega) kg2
  replace HW := HW.stT (by decide) (by decide) (by decide) kgt St
  replace HB5 := HB5.no5 ((GroS.refl [gt] _).st St (.inr (by simp))) (jv kgt (by decide))
  replace GG := GG.st St (.inl bgt)
  replace kgt := St.new
  clear St
  refine wpList_nil (ja (wp_seq (wp_seq (wp_region_lit (sv 31 (pK gt 3) (jc 59 _ 3 rfl _ _ rfl _) (sv 32 (vFa) (je 4 _ rfl gt 3 rfl 59 _ kgt (na4 _) _ rfl) ?_))))))
  refine nr ?_; intro U h; simp only [z0, z1] at h; subst h
  refine wpList_nil (ja (wp_cond_false rfl (wp_skip (ja (wp_seq (wp_region_lit (mv 36 (pK p 0) ?_)))))))
  refine jt 37 rfl rfl _ 57 Try.call57 rfl rfl _ rfl [pK p 0] rfl (uT _ p wp B id up true mi mn pi pn oth ro rc q k c ⟨kp, HW⟩ hk (by omega)) (fun _ _ ⟨_, _, _, _, _, he, _⟩ => ⟨_, he⟩) ?_
  rintro v w9 ⟨s1g, s2g, s3g, aog, capg, he, HVg, G⟩
  cases he
  replace kp := G.has kp
  replace kg1 := G.has kg1
  replace kg2 := G.has kg2
  replace kgt := G.has kgt
  replace HW := HW.gro G
  replace HB5 := HB5.gro G
  replace GG := GG.tg G
  clear G
  refine zR 38 rfl rfl 50 1 _ rfl [(0, .agg (c46 3 zF 0 false zF zF ((c : Nat) : Int) mi mn pi pn s1g s2g zF 0 zF s3g 0 0 ⟨aog, 0, capg⟩))] rfl (c46 3 zF 0 false zF zF ((c : Nat) : Int) mi mn pi pn s1g s2g zF 0 zF s3g 0 0 ⟨aog, 0, capg⟩) 46 (by kernel_rfl) ?_
  intro w10 g3 G eg3 kg3
  have bg3 := jz GG eg3
  have dpg3 := jf kp eg3
  have dg1g3 := jf kg1 eg3
  have dg2g3 := jf kg2 eg3
  have dgtg3 := jf kgt eg3
  replace kp := G.has kp
  replace kg1 := G.has kg1
  replace kg2 := G.has kg2
  replace kgt := G.has kgt
  replace HW := HW.gro G
  replace HB5 := HB5.gro G
  replace HVg := HVg.gro G
  replace GG := GG.tg G
  clear G eg3
  refine nr ?_; intro U h; simp only [z0, z1] at h; subst h
  refine sv 39 (pK gt 4) (jc 59 _ 4 rfl _ _ rfl _) ?_
  refine jo rfl rfl 50 _ _ rfl gt 4 rfl (.slice (some ⟨g3, 0, none⟩) 1 1) rfl 59 _ kgt #[.slice (some ⟨g3, 0, none⟩) 1 1] rfl (by kernel_rfl) (nlB rfl) (by kernel_rfl) (c59 false (!op) Sl.nil false ⟨some ⟨g3, 0, none⟩, 1, 1⟩) (by kernel_rfl) ?_
  intro w12 St
  replace kp := St.has (by omega) kp
  replace kg1 := St.has (by omega) kg1
  replace kg2 := St.has (by omega) kg2
  replace kg3 := St.has (by omega) kg3
  replace HW := HW.stT (by decide) (by decide) (by decide) kgt St
  replace HB5 := HB5.no5 ((GroS.refl [gt] _).st St (.inr (by simp))) (jv kgt (by decide))
  replace HVg := HVg.no5 ((GroS.refl [gt] _).st St (.inr (by simp))) (jv kgt (by decide))
  replace GG := GG.st St (.inl bgt)
  replace kgt := St.new
  clear St
  refine wpList_nil (ja (wp_seq (wp_region_lit (sv 40 (.agg (c59 false (!op) Sl.nil false ⟨some ⟨g3, 0, none⟩, 1, 1⟩)) (jk 59 _ rfl gt 0 5 rfl 59 _ kgt _ Try.underlying59 rfl si59 _) ?_))))
  refine jo rfl rfl 59 _ _ rfl g1 0 rfl (.agg (c59 false (!op) Sl.nil false ⟨some ⟨g3, 0, none⟩, 1, 1⟩)) rfl 59 _ kg1 (c59 false (!op) Sl.nil false ⟨some ⟨g3, 0, none⟩, 1, 1⟩) rfl (by kernel_rfl) (nlB rfl) (by kernel_rfl) (c59 false (!op) Sl.nil false ⟨some ⟨g3, 0, none⟩, 1, 1⟩) (by kernel_rfl) ?_
  intro w14 St
  replace kp := St.has (by omega) kp
  replace kg2 := St.has (by omega) kg2
  replace kgt := St.has (by omega) kgt
  replace kg3 := St.has (by omega) kg3
  replace HW := HW.stT (by decide) (by decide) (by decide) kg1 St
  replace HB5 := HB5.no5 ((GroS.refl [g1] _).st St (.inr (by simp))) (jv kg1 (by decide))
  replace HVg := HVg.no5 ((GroS.refl [g1] _).st St (.inr (by simp))) (jv kg1 (by decide))
  replace GG := GG.st St (.inl bg1)
  replace kg1 := St.new
  clear St
  refine wpList_nil (ja (wp_ret (zh (jL ?_))))
  refine bodyPost_ret (results_cell_row Try.results45 _ _ g1 59 _ (0, 0) _ rfl kg1 Try.underlying59 rfl (by kernel_rfl)) rfl ?_
  exact ⟨_, (p :: wp :: blk ro), (txb q), rfl, ⟨none, 0, _, _, [(_, _)], rfl, OB.nil _ _ _ _, rfl, LF.one (f := pfr ⟨3, zF, mi, mn, pi, pn, ((c : Nat) : Int), []⟩ s1g s2g s3g ⟨aog, 0, capg⟩) kg3 (Nat.zero_le _) HVg⟩, ⟨wp, B, ro, rc, q, ⟨kp, HW⟩, rfl, rfl, rfl⟩, GG.p2, Fresh.refl _ _, Fresh.refl _ _⟩
theorem ub (w : World) (p wp B : Nat) (id : Nat → Nat) (up op : Bool) (mi mn pi pn : Int) (oth : Nat → Nat) (ro : Option Addr) (rc : Nat) (q : List RV) (k c : Nat) (H : EW w p wp B id up op mi mn pi pn oth ro rc q k c) (fi fn ti tn n : Int) (hb : decide ((fi = pi ∧ fn = pn) ∧ ti = mi ∧ tn = mn) = false) : Calls Try.prog 45 #[pK p 0, .iface 129 (.agg (c129 fi fn ti tn n))] w (HearP w p id (p :: wp :: blk ro) (txb q) (⟨up, op, mi, mn, pi, pn, oth, k, (q.map (·.l)), c⟩, PT.no)) := by
  refine jq Try.func45 rfl Try.ntmps45 [pK p 0, .iface 129 (.agg (c129 fi fn ti tn n))] ?_
  intro U h; simp only [List.length_cons, List.length_nil, List.cons_append, List.nil_append, Nat.reduceAdd, Nat.reduceSub, List.reduceReplicate] at h; subst h
  have GG := Gro.refl w
  have kp := H.box
  have HW := H.win
  have hpl := jm kp
  refine wp_seq (wp_region_lit ?_)
  refine js 4 rfl rfl 59 rfl _ zv59 _ rfl ?_
  intro w1 g1 G eg1 kg1
  have bg1 := jh GG eg1
  have dpg1 := jf kp eg1
  replace kp := G.has kp
  replace HW := HW.gro G
  replace GG := GG.trans G
  clear G eg1
  refine wpList_nil (ja (wp_seq (wp_seq (wp_region_lit (mv 9 (.iface 129 (.agg (c129 fi fn ti tn n))) (wpList_nil (ja (wp_block (wp_seq (wp_region_lit (sv 10 (.tuple #[.agg (c125 0 0 0 0 0 Sl.nil), vFa]) (jx _ 106 125 true rfl _ _ rfl) ?_)))))))))))
  refine nr ?_; intro U h; simp only [z0, z1] at h; subst h
  refine mv 11 (vFa) (mv 12 (.agg (c125 0 0 0 0 0 Sl.nil)) (wpList_nil (ja (wp_cond_false rfl (wp_seq (wp_region_lit (sv 41 (.tuple #[.agg (c129 fi fn ti tn n), vTr]) (jx _ 106 129 true rfl _ _ rfl) ?_)))))))
  refine nr ?_; intro U h; simp only [z0, z1] at h; subst h
  refine mv 42 (vTr) (mv 43 (.agg (c129 fi fn ti tn n)) (wpList_nil (ja (wp_cond_true rfl (wp_seq (wp_region_lit ?_))))))
  refine js 7 rfl rfl 129 rfl _ zv129 _ rfl ?_
  intro w2 g2 G eg2 kg2
  have bg2 := jh GG eg2
  have dpg2 := jf kp eg2
  have dg1g2 := jf kg1 eg2
  replace kp := G.has kp
  replace kg1 := G.has kg1
  replace HW := HW.gro G
  replace GG := GG.trans G
  clear G eg2
  refine nr ?_; intro U h; simp only [z0, z1] at h; subst h
  refine jo rfl rfl 129 _ _ rfl g2 0 rfl (.agg (c129 fi fn ti tn n)) rfl 129 _ kg2 (c129 fi fn ti tn n) rfl (by kernel_rfl) (nlB rfl) (by kernel_rfl) (c129 fi fn ti tn n) (by kernel_rfl) ?_
  intro w4 St
  replace kp := St.has (by omega) kp
  replace kg1 := St.has (by omega) kg1
  replace HW := HW.stT (by decide) (by decide) (by decide) kg2 St
  replace GG := GG.store St bg2
  replace kg2 := St.new
  clear St
  refine wpList_nil (ja (wp_seq (wp_seq (wp_region_lit (mv 44 (pK p 0) (sv 45 (pK g2 0) (jc 129 _ 0 rfl _ _ rfl _) (sv 46 (.agg (c29 fi fn)) (jk 29 _ rfl g2 0 2 rfl 129 _ kg2 _ Try.underlying29 rfl si29 _) ?_)))))))
  refine nr ?_; intro U h; simp only [z0, z1] at h; subst h
  refine sv 47 (pK g2 2) (jc 129 _ 1 rfl _ _ rfl _) (sv 48 (.agg (c29 ti tn)) (jk 29 _ rfl g2 2 2 rfl 129 _ kg2 _ Try.underlying29 rfl si29 _) ?_)
  refine jC 49 rfl rfl _ 58 Try.call58 rfl rfl _ rfl [pK p 0, .agg (c29 fi fn), .agg (c29 ti tn)] rfl ((show decide ((fi = pi ∧ fn = pn) ∧ ti = mi ∧ tn = mn) = false from hb) ▸ zz _ p wp B id up op mi mn pi pn oth ro rc q k c ⟨kp, HW⟩ fi fn ti tn) ?_
  intro w5 G
  replace kp := G.has kp
  replace kg1 := G.has kg1
  replace kg2 := G.has kg2
  replace HW := HW.gro G
  replace GG := GG.trans G
  clear G
  refine nr ?_; intro U h; simp only [z0, z1] at h; subst h
  refine sv 50 (vTr) (jU _ _ rfl false rfl) (wpList_nil (ja (wp_cond_true rfl (wp_seq (wp_region_lit (sv 51 (.agg (c59 false false Sl.nil false Sl.nil)) (jA 59 _ rfl [] rfl _ (by kernel_rfl)) ?_))))))
  refine jo rfl rfl 59 _ _ rfl g1 0 rfl (.agg (c59 false false Sl.nil false Sl.nil)) rfl 59 _ kg1 (c59 false false Sl.nil false Sl.nil) rfl (by kernel_rfl) (nlB rfl) (by kernel_rfl) (c59 false false Sl.nil false Sl.nil) (by kernel_rfl) ?_
  intro w7 St
  replace kp := St.has (by omega) kp
  replace kg2 := St.has (by omega) kg2
  replace HW := HW.stT (by decide) (by decide) (by decide) kg1 St
  replace GG := GG.store St bg1
  replace kg1 := St.new
  clear St
  refine wpList_nil (ja (wp_ret (jL (zh (jL ?_)))))
  refine bodyPost_ret (results_cell_row Try.results45 _ _ g1 59 _ (0, 0) _ rfl kg1 Try.underlying59 rfl (by kernel_rfl)) rfl ?_
  exact ⟨_, (p :: wp :: blk ro), (txb q), rfl, TV.no _, ⟨wp, B, ro, rc, q, ⟨kp, HW⟩, rfl, rfl, rfl⟩, GroS.of GG, Fresh.refl _ _, Fresh.refl _ _⟩
theorem vG (w : World) (p wp B : Nat) (id : Nat → Nat) (up op : Bool) (mi mn pi pn : Int) (oth : Nat → Nat) (ro : Option Addr) (rc : Nat) (q : List RV) (k c : Nat) (H : EW w p wp B id up op mi mn pi pn oth ro rc q k c) (fi fn ti tn n : Int) (hb : decide ((fi = pi ∧ fn = pn) ∧ ti = mi ∧ tn = mn) = true) (hk : k + q.length ≤ 100000) (hc : c ≤ 100000) (hn : n < ((k : Nat) : Int) + 1) : Calls Try.prog 45 #[pK p 0, .iface 129 (.agg (c129 fi fn ti tn n))] w (HearP w p id (p :: wp :: blk ro) (txb q) (⟨up, true, mi, mn, pi, pn, oth, k, (q.map (·.l)), c⟩, ⟨false, !op, [], false, []⟩)) := by
  refine jq Try.func45 rfl Try.ntmps45 [pK p 0, .iface 129 (.agg (c129 fi fn ti tn n))] ?_
  intro U h; simp only [List.length_cons, List.length_nil, List.cons_append, List.nil_append, Nat.reduceAdd, Nat.reduceSub, List.reduceReplicate] at h; subst h
  have GG := GroS.refl [p] w
  have kp := H.box
  have HW := H.win
  have hpl := jm kp
  refine wp_seq (wp_region_lit ?_)
  refine js 4 rfl rfl 59 rfl _ zv59 _ rfl ?_
  intro w1 g1 G eg1 kg1
  have bg1 := jz GG eg1
  have dpg1 := jf kp eg1
  replace kp := G.has kp
  replace HW := HW.gro G
  replace GG := GG.tg G
  clear G eg1
  refine wpList_nil (ja (wp_seq (wp_seq (wp_region_lit (mv 9 (.iface 129 (.agg (c129 fi fn ti tn n))) (wpList_nil (ja (wp_block (wp_seq (wp_region_lit (sv 10 (.tuple #[.agg (c125 0 0 0 0 0 Sl.nil), vFa]) (jx _ 106 125 true rfl _ _ rfl) ?_)))))))))))
  refine nr ?_; intro U h; simp only [z0, z1] at h; subst h
  refine mv 11 (vFa) (mv 12 (.agg (c125 0 0 0 0 0 Sl.nil)) (wpList_nil (ja (wp_cond_false rfl (wp_seq (wp_region_lit (sv 41 (.tuple #[.agg (c129 fi fn ti tn n), vTr]) (jx _ 106 129 true rfl _ _ rfl) ?_)))))))
  refine nr ?_; intro U h; simp only [z0, z1] at h; subst h
  refine mv 42 (vTr) (mv 43 (.agg (c129 fi fn ti tn n)) (wpList_nil (ja (wp_cond_true rfl (wp_seq (wp_region_lit ?_))))))
  refine js 7 rfl rfl 129 rfl _ zv129 _ rfl ?_
  intro w2 g2 G eg2 kg2
  have bg2 := jz GG eg2
  have dpg2 := jf kp eg2
  have dg1g2 := jf kg1 eg2
  replace kp := G.has kp
  replace kg1 := G.has kg1
  replace HW := HW.gro G
  replace GG := GG.tg G
  clear G eg2
  refine nr ?_; intro U h; simp only [z0, z1] at h; subst h
  refine jo rfl rfl 129 _ _ rfl g2 0 rfl (.agg (c129 fi fn ti tn n)) rfl 129 _ kg2 (c129 fi fn ti tn n) rfl (by kernel_rfl) (nlB rfl) (by kernel_rfl) (c129 fi fn ti tn n) (by kernel_rfl) ?_
  intro w4 St
  replace kp := St.has (by omega) kp
  replace kg1 := St.has (by omega) kg1
  replace HW := HW.stT (by decide) (by decide) (by decide) kg2 St
  replace GG := GG.st St (.inl bg2)
  replace kg2 := St.new
  clear St
  refine wpList_nil (ja (wp_seq (wp_seq (wp_region_lit (mv 44 (pK p 0) (sv 45 (pK g2 0) (jc 129 _ 0 rfl _ _ rfl _) (sv 46 (.agg (c29 fi fn)) (jk 29 _ rfl g2 0 2 rfl 129 _ kg2 _ Try.underlying29 rfl si29 _) ?_)))))))
  refine nr ?_; intro U h; simp only [z0, z1] at h; subst h
  refine sv 47 (pK g2 2) (jc 129 _ 1 rfl _ _ rfl _) (sv 48 (.agg (c29 ti tn)) (jk 29 _ rfl g2 2 2 rfl 129 _ kg2 _ Try.underlying29 rfl si29 _) ?_)
  refine jC 49 rfl rfl _ 58 Try.call58 rfl rfl _ rfl [pK p 0, .agg (c29 fi fn), .agg (c29 ti tn)] rfl ((show decide ((fi = pi ∧ fn = pn) ∧ ti = mi ∧ tn = mn) = true from hb) ▸ zz _ p wp B id up op mi mn pi pn oth ro rc q k c ⟨kp, HW⟩ fi fn ti tn) ?_
  intro w5 G
  replace kp := G.has kp
  replace kg1 := G.has kg1
  replace kg2 := G.has kg2
  replace HW := HW.gro G
  replace GG := GG.tg G
  clear G
  refine nr ?_; intro U h; simp only [z0, z1] at h; subst h
  refine sv 50 (vFa) (jU _ _ rfl true rfl) (wpList_nil (ja (wp_cond_false rfl (wp_skip (ja (wp_seq (wp_region_lit (mv 52 (pK p 0) ?_))))))))
  refine jt 53 rfl rfl _ 56 Try.call56 rfl rfl _ rfl [pK p 0] rfl (zC _ p wp B id up op mi mn pi pn oth ro rc q k c ⟨kp, HW⟩) (fun _ _ ⟨he, _⟩ => ⟨_, he⟩) ?_
  rintro v w6 ⟨he, G, HE⟩
  cases he
  replace kg1 := G.has kg1 (by simp; omega)
  replace kg2 := G.has kg2 (by simp; omega)
  replace GG := GG.trans G
  clear kp HW G
  have kp := HE.box
  have HW := HE.win
  clear HE
  refine nr ?_; intro U h; simp only [z0, z1] at h; subst h
  refine mv 8 (.bool (!op)) (wpList_nil (ja (wp_seq ?_)))
  refine jw (A := ?Ax1) 6 [(0, 54), (1, 55), (2, 56), (3, 57), (4, 58), (5, 59)] [.val (pK p 0), .val (pK p 0), .val (pK p 38), .val (pK wp 0), .val (pK g2 4), .val (iK n)] follows (by kernel_rfl) rfl ?hAx1 (jd ?o0x1 (jd ?o1x1 (jd ?o2x1 (jd ?o3x1 (jd ?o4x1 (jd ?o5x1 jM)))))) ?restx1
  case hAx1 =>
    intro ptrs
    simp only [full, foldSlots, filledE, postE, List.foldl_cons, List.foldl_nil, List.getD_cons_zero, List.getD_cons_succ, ju, List.set_cons_zero, List.set_cons_succ]
    exact rfl
  case o0x1 => exact fun _ _ _ _ => jj (v := pK p 0) _ rfl rfl rfl
  case o1x1 => exact fun _ _ hw _ => jb (v := pK p 0) rfl (jl _ rfl _ rfl)
  case o2x1 => exact fun _ _ hw _ => jb (v := pK p 38) rfl (jc 98 _ 6 rfl _ _ rfl _)
  case o3x1 => exact fun _ _ hw _ => jb (v := pK wp 0) rfl (je 95 _ rfl p 38 rfl 98 _ (hw.has kp) (na95 _) _ rfl)
  case o4x1 => exact fun _ _ hw _ => jb (v := pK g2 4) rfl (jc 129 _ 2 rfl _ _ rfl _)
  case o5x1 => exact fun _ _ hw _ => jb (v := iK n) rfl (je 2 _ rfl g2 4 rfl 129 _ (hw.has kg2) (na2 _) _ rfl)
  intro ptrs w7 GD hxE
  simp only [List.drop_succ_cons, List.drop_zero]
  replace kp := GD.has kp
  replace kg1 := GD.has kg1
  replace kg2 := GD.has kg2
  replace HW := HW.gro ((Gro.refl _).drew.trans GD)
  replace GG := GG.drew.tg GD
  clear GD
  refine jC 60 rfl rfl _ 60 Try.call60 rfl rfl _ rfl [pK wp 0, iK n] rfl (Zw _ wp B ro rc q k c HW hk hc n hn) ?_
  intro w8 G
  replace kp := G.has kp
  replace kg1 := G.has kg1
  replace kg2 := G.has kg2
  replace HW := HW.gro G
  replace GG := GG.tg G
  clear G
  refine wpList_nil (ja (wp_seq (wp_region_lit (mv 61 (.bool (!op)) ?_))))
  refine nr ?_; intro U h; simp only [z0, z1] at h; subst h
  refine sv 62 (.agg (c59 false (!op) Sl.nil false Sl.nil)) (jA 59 _ rfl [(1, .bool (!op))] rfl _ (by kernel_rfl)) ?_
  refine jo rfl rfl 59 _ _ rfl g1 0 rfl (.agg (c59 false (!op) Sl.nil false Sl.nil)) rfl 59 _ kg1 (c59 false (!op) Sl.nil false Sl.nil) rfl (by kernel_rfl) (nlB rfl) (by kernel_rfl) (c59 false (!op) Sl.nil false Sl.nil) (by kernel_rfl) ?_
  intro w10 St
  replace kp := St.has (by omega) kp
  replace kg2 := St.has (by omega) kg2
  replace HW := HW.stT (by decide) (by decide) (by decide) kg1 St
  replace GG := GG.st St (.inl bg1)
  replace kg1 := St.new
  clear St
  refine wpList_nil (ja (wp_ret (zh (jL ?_))))
  refine bodyPost_ret (results_cell_row Try.results45 _ _ g1 59 _ (0, 0) _ rfl kg1 Try.underlying59 rfl (by kernel_rfl)) rfl ?_
  exact ⟨_, (p :: wp :: blk ro), (txb q), rfl, ⟨none, 0, none, 0, [], rfl, OB.nil _ _ _ _, rfl, LF.nil _ _⟩, ⟨wp, B, ro, rc, q, ⟨kp, HW⟩, rfl, rfl, rfl⟩, GG.p1, Fresh.refl _ _, Fresh.refl _ _⟩
theorem vo (w : World) (p wp B : Nat) (id : Nat → Nat) (up op : Bool) (mi mn pi pn : Int) (oth : Nat → Nat) (ro : Option Addr) (rc : Nat) (q : List RV) (k c : Nat) (H : EW w p wp B id up op mi mn pi pn oth ro rc q k c) (fi fn ti tn n : Int) (hb : decide ((fi = pi ∧ fn = pn) ∧ ti = mi ∧ tn = mn) = true) (hk : k + q.length ≤ 100000) (hc : c ≤ 100000) (hn : ((k + q.length : Nat) : Int) < n) : Calls Try.prog 45 #[pK p 0, .iface 129 (.agg (c129 fi fn ti tn n))] w (HearP w p id (p :: wp :: blk ro) (txb q) (⟨up, true, mi, mn, pi, pn, oth, k, (q.map (·.l)), c⟩, ⟨false, !op, [], false, []⟩)) := by
  refine jq Try.func45 rfl Try.ntmps45 [pK p 0, .iface 129 (.agg (c129 fi fn ti tn n))] ?_
  intro U h; simp only [List.length_cons, List.length_nil, List.cons_append, List.nil_append, Nat.reduceAdd, Nat.reduceSub, List.reduceReplicate] at h; subst h
  have GG := GroS.refl [p] w
  have kp := H.box
  have HW := H.win
  have hpl := jm kp
  refine wp_seq (wp_region_lit ?_)
  refine js 4 rfl rfl 59 rfl _ zv59 _ rfl ?_
  intro w1 g1 G eg1 kg1
  have bg1 := jz GG eg1
  have dpg1 := jf kp eg1
  replace kp := G.has kp
  replace HW := HW.gro G
  replace GG := GG.tg G
  clear G eg1
  refine wpList_nil (ja (wp_seq (wp_seq (wp_region_lit (mv 9 (.iface 129 (.agg (c129 fi fn ti tn n))) (wpList_nil (ja (wp_block (wp_seq (wp_region_lit (sv 10 (.tuple #[.agg (c125 0 0 0 0 0 Sl.nil), vFa]) (jx _ 106 125 true rfl _ _ rfl) ?_)))))))))))
  refine nr ?_; intro U h; simp only [z0, z1] at h; subst h
  refine mv 11 (vFa) (mv 12 (.agg (c125 0 0 0 0 0 Sl.nil)) (wpList_nil (ja (wp_cond_false rfl (wp_seq (wp_region_lit (sv 41 (.tuple #[.agg (c129 fi fn ti tn n), vTr]) (jx _ 106 129 true rfl _ _ rfl) ?_)))))))
  refine nr ?_; intro U h; simp only [z0, z1] at h; subst h
  refine mv 42 (vTr) (mv 43 (.agg (c129 fi fn ti tn n)) (wpList_nil (ja (wp_cond_true rfl (wp_seq (wp_region_lit ?_))))))
  refine js 7 rfl rfl 129 rfl _ zv129 _ rfl ?_
  intro w2 g2 G eg2 kg2
  have bg2 := jz GG eg2
  have dpg2 := jf kp eg2
  have dg1g2 := jf kg1 eg2
  replace kp := G.has kp
  replace kg1 := G.has kg1
  replace HW := HW.gro G
  replace GG := GG.tg G
  clear G eg2
  refine nr ?_; intro U h; simp only [z0, z1] at h; subst h
  refine jo rfl rfl 129 _ _ rfl g2 0 rfl (.agg (c129 fi fn ti tn n)) rfl 129 _ kg2 (c129 fi fn ti tn n) rfl (by kernel_rfl) (nlB rfl) (by kernel_rfl) (c129 fi fn ti tn n) (by kernel_rfl) ?_
  intro w4 St
  replace kp := St.has (by omega) kp
  replace kg1 := St.has (by omega) kg1
  replace HW := HW.stT (by decide) (by decide) (by decide) kg2 St
  replace GG := GG.st St (.inl bg2)
  replace kg2 := St.new
  clear St
  refine wpList_nil (ja (wp_seq (wp_seq (wp_region_lit (mv 44 (pK p 0) (sv 45 (pK g2 0) (jc 129 _ 0 rfl _ _ rfl _) (sv 46 (.agg (c29 fi fn)) (jk 29 _ rfl g2 0 2 rfl 129 _ kg2 _ Try.underlying29 rfl si29 _) ?_)))))))
  refine nr ?_; intro U h; simp only [z0, z1] at h; subst h
  refine sv 47 (pK g2 2) (jc 129 _ 1 rfl _ _ rfl _) (sv 48 (.agg (c29 ti tn)) (jk 29 _ rfl g2 2 2 rfl 129 _ kg2 _ Try.underlying29 rfl si29 _) ?_)
  refine jC 49 rfl rfl _ 58 Try.call58 rfl rfl _ rfl [pK p 0, .agg (c29 fi fn), .agg (c29 ti tn)] rfl ((show decide ((fi = pi ∧ fn = pn) ∧ ti = mi ∧ tn = mn) = true from hb) ▸ zz _ p wp B id up op mi mn pi pn oth ro rc q k c ⟨kp, HW⟩ fi fn ti tn) ?_
  intro w5 G
  replace kp := G.has kp
  replace kg1 := G.has kg1
  replace kg2 := G.has kg2
  replace HW := HW.gro G
  replace GG := GG.tg G
  clear G
  refine nr ?_; intro U h; simp only [z0, z1] at h; subst h
  refine sv 50 (vFa) (jU _ _ rfl true rfl) (wpList_nil (ja (wp_cond_false rfl (wp_skip (ja (wp_seq (wp_region_lit (mv 52 (pK p 0) ?_))))))))
  refine jt 53 rfl rfl _ 56 Try.call56 rfl rfl _ rfl [pK p 0] rfl (zC _ p wp B id up op mi mn pi pn oth ro rc q k c ⟨kp, HW⟩) (fun _ _ ⟨he, _⟩ => ⟨_, he⟩) ?_
  rintro v w6 ⟨he, G, HE⟩
  cases he
  replace kg1 := G.has kg1 (by simp; omega)
  replace kg2 := G.has kg2 (by simp; omega)
  replace GG := GG.trans G
  clear kp HW G
  have kp := HE.box
  have HW := HE.win
  clear HE
  refine nr ?_; intro U h; simp only [z0, z1] at h; subst h
  refine mv 8 (.bool (!op)) (wpList_nil (ja (wp_seq ?_)))
  refine jw (A := ?Ax2) 6 [(0, 54), (1, 55), (2, 56), (3, 57), (4, 58), (5, 59)] [.val (pK p 0), .val (pK p 0), .val (pK p 38), .val (pK wp 0), .val (pK g2 4), .val (iK n)] follows (by kernel_rfl) rfl ?hAx2 (jd ?o0x2 (jd ?o1x2 (jd ?o2x2 (jd ?o3x2 (jd ?o4x2 (jd ?o5x2 jM)))))) ?restx2
  case hAx2 =>
    intro ptrs
    simp only [full, foldSlots, filledE, postE, List.foldl_cons, List.foldl_nil, List.getD_cons_zero, List.getD_cons_succ, ju, List.set_cons_zero, List.set_cons_succ]
    exact rfl
  case o0x2 => exact fun _ _ _ _ => jj (v := pK p 0) _ rfl rfl rfl
  case o1x2 => exact fun _ _ hw _ => jb (v := pK p 0) rfl (jl _ rfl _ rfl)
  case o2x2 => exact fun _ _ hw _ => jb (v := pK p 38) rfl (jc 98 _ 6 rfl _ _ rfl _)
  case o3x2 => exact fun _ _ hw _ => jb (v := pK wp 0) rfl (je 95 _ rfl p 38 rfl 98 _ (hw.has kp) (na95 _) _ rfl)
  case o4x2 => exact fun _ _ hw _ => jb (v := pK g2 4) rfl (jc 129 _ 2 rfl _ _ rfl _)
  case o5x2 => exact fun _ _ hw _ => jb (v := iK n) rfl (je 2 _ rfl g2 4 rfl 129 _ (hw.has kg2) (na2 _) _ rfl)
  intro ptrs w7 GD hxE
  simp only [List.drop_succ_cons, List.drop_zero]
  replace kp := GD.has kp
  replace kg1 := GD.has kg1
  replace kg2 := GD.has kg2
  replace HW := HW.gro ((Gro.refl _).drew.trans GD)
  replace GG := GG.drew.tg GD
  clear GD
  refine jC 60 rfl rfl _ 60 Try.call60 rfl rfl _ rfl [pK wp 0, iK n] rfl (JP _ wp B ro rc q k c HW hk hc n hn) ?_
  intro w8 G
  replace kp := G.has kp
  replace kg1 := G.has kg1
  replace kg2 := G.has kg2
  replace HW := HW.gro G
  replace GG := GG.tg G
  clear G
  refine wpList_nil (ja (wp_seq (wp_region_lit (mv 61 (.bool (!op)) ?_))))
  refine nr ?_; intro U h; simp only [z0, z1] at h; subst h
  refine sv 62 (.agg (c59 false (!op) Sl.nil false Sl.nil)) (jA 59 _ rfl [(1, .bool (!op))] rfl _ (by kernel_rfl)) ?_
  refine jo rfl rfl 59 _ _ rfl g1 0 rfl (.agg (c59 false (!op) Sl.nil false Sl.nil)) rfl 59 _ kg1 (c59 false (!op) Sl.nil false Sl.nil) rfl (by kernel_rfl) (nlB rfl) (by kernel_rfl) (c59 false (!op) Sl.nil false Sl.nil) (by kernel_rfl) ?_
  intro w10 St
  replace kp := St.has (by omega) kp
  replace kg2 := St.has (by omega) kg2
  replace HW := HW.stT (by decide) (by decide) (by decide) kg1 St
  replace GG := GG.st St (.inl bg1)
  replace kg1 := St.new
  clear St
  refine wpList_nil (ja (wp_ret (zh (jL ?_))))
  refine bodyPost_ret (results_cell_row Try.results45 _ _ g1 59 _ (0, 0) _ rfl kg1 Try.underlying59 rfl (by kernel_rfl)) rfl ?_
  exact ⟨_, (p :: wp :: blk ro), (txb q), rfl, ⟨none, 0, none, 0, [], rfl, OB.nil _ _ _ _, rfl, LF.nil _ _⟩, ⟨wp, B, ro, rc, q, ⟨kp, HW⟩, rfl, rfl, rfl⟩, GG.p1, Fresh.refl _ _, Fresh.refl _ _⟩
theorem ua (w : World) (p wp B : Nat) (id : Nat → Nat) (up op : Bool) (mi mn pi pn : Int) (oth : Nat → Nat) (ro : Option Addr) (rc : Nat) (q : List RV) (k c : Nat) (H : EW w p wp B id up op mi mn pi pn oth ro rc q k c) (fi fn ti tn n : Int) (hb : decide ((fi = pi ∧ fn = pn) ∧ ti = mi ∧ tn = mn) = true) (hk : k + q.length ≤ 100000) (hc : c ≤ 100000) (m : Nat) (hm1 : 1 ≤ m) (hm : m ≤ q.length) (hn : n = ((k + m : Nat) : Int)) : Calls Try.prog 45 #[pK p 0, .iface 129 (.agg (c129 fi fn ti tn n))] w (HearP w p id (p :: wp :: blk ro) (txb q) (⟨up, true, mi, mn, pi, pn, oth, (k + m), ((q.map (·.l)).drop m), c⟩, ⟨false, !op, [], false, []⟩)) := by
  refine jq Try.func45 rfl Try.ntmps45 [pK p 0, .iface 129 (.agg (c129 fi fn ti tn n))] ?_
  intro U h; simp only [List.length_cons, List.length_nil, List.cons_append, List.nil_append, Nat.reduceAdd, Nat.reduceSub, List.reduceReplicate] at h; subst h
  have GG := GroS.refl (p :: wp :: blk ro) w
  have kp := H.box
  have HW := H.win
  have hpl := jm kp
  refine wp_seq (wp_region_lit ?_)
  refine js 4 rfl rfl 59 rfl _ zv59 _ rfl ?_
  intro w1 g1 G eg1 kg1
  have bg1 := jz GG eg1
  have dpg1 := jf kp eg1
  replace kp := G.has kp
  replace HW := HW.gro G
  replace GG := GG.tg G
  clear G eg1
  refine wpList_nil (ja (wp_seq (wp_seq (wp_region_lit (mv 9 (.iface 129 (.agg (c129 fi fn ti tn n))) (wpList_nil (ja (wp_block (wp_seq (wp_region_lit (sv 10 (.tuple #[.agg (c125 0 0 0 0 0 Sl.nil), vFa]) (jx _ 106 125 true rfl _ _ rfl) ?_)))))))))))
  refine nr ?_; intro U h; simp only [z0, z1] at h; subst h
  refine mv 11 (vFa) (mv 12 (.agg (c125 0 0 0 0 0 Sl.nil)) (wpList_nil (ja (wp_cond_false rfl (wp_seq (wp_region_lit (sv 41 (.tuple #[.agg (c129 fi fn ti tn n), vTr]) (jx _ 106 129 true rfl _ _ rfl) ?_)))))))
  refine nr ?_; intro U h; simp only [z0, z1] at h; subst h
  refine mv 42 (vTr) (mv 43 (.agg (c129 fi fn ti tn n)) (wpList_nil (ja (wp_cond_true rfl (wp_seq (wp_region_lit ?_))))))
  refine js 7 rfl rfl 129 rfl _ zv129 _ rfl ?_
  intro w2 g2 G eg2 kg2
  have bg2 := jz GG eg2
  have dpg2 := jf kp eg2
  have dg1g2 := jf kg1 eg2
  replace kp := G.has kp
  replace kg1 := G.has kg1
  replace HW := HW.gro G
  replace GG := GG.tg G
  clear G eg2
  refine nr ?_; intro U h; simp only [z0, z1] at h; subst h
  refine jo rfl rfl 129 _ _ rfl g2 0 rfl (.agg (c129 fi fn ti tn n)) rfl 129 _ kg2 (c129 fi fn ti tn n) rfl (by kernel_rfl) (nlB rfl) (by kernel_rfl) (c129 fi fn ti tn n) (by kernel_rfl) ?_
  intro w4 St
  replace kp := St.has (by omega) kp
  replace kg1 := St.has (by omega) kg1
  replace HW := HW.stT (by decide) (by decide) (by decide) kg2 St
  replace GG := GG.st St (.inl bg2)
  replace kg2 := St.new
  clear St
  refine wpList_nil (ja (wp_seq (wp_seq (wp_region_lit (mv 44 (pK p 0) (sv 45 (pK g2 0) (jc 129 _ 0 rfl _ _ rfl _) (sv 46 (.agg (c29 fi fn)) (jk 29 _ rfl g2 0 2 rfl 129 _ kg2 _ Try.underlying29 rfl si29 _) ?_)))))))
  refine nr ?_; intro U h; simp only [z0, z1] at h; subst h
  refine sv 47 (pK g2 2) (jc 129 _ 1 rfl _ _ rfl _) (sv 48 (.agg (c29 ti tn)) (jk 29 _ rfl g2 2 2 rfl 129 _ kg2 _ Try.underlying29 rfl si29 _) ?_)
  refine jC 49 rfl rfl _ 58 Try.call58 rfl rfl _ rfl [pK p 0, .agg (c29 fi fn), .agg (c29 ti tn)] rfl ((show decide ((fi = pi ∧ fn = pn) ∧ ti = mi ∧ tn = mn) = true from hb) ▸ zz _ p wp B id up op mi mn pi pn oth ro rc q k c ⟨kp, HW⟩ fi fn ti tn) ?_
  intro w5 G
  replace kp := G.has kp
  replace kg1 := G.has kg1
  replace kg2 := G.has kg2
  replace HW := HW.gro G
  replace GG := GG.tg G
  clear G
  refine nr ?_; intro U h; simp only [z0, z1] at h; subst h
  refine sv 50 (vFa) (jU _ _ rfl true rfl) (wpList_nil (ja (wp_cond_false rfl (wp_skip (ja (wp_seq (wp_region_lit (mv 52 (pK p 0) ?_))))))))
  refine jt 53 rfl rfl _ 56 Try.call56 rfl rfl _ rfl [pK p 0] rfl (zC _ p wp B id up op mi mn pi pn oth ro rc q k c ⟨kp, HW⟩) (fun _ _ ⟨he, _⟩ => ⟨_, he⟩) ?_
  rintro v w6 ⟨he, G, HE⟩
  cases he
  replace kg1 := G.has kg1 (by simp; omega)
  replace kg2 := G.has kg2 (by simp; omega)
  replace GG := GG.trans G.p1
  clear kp HW G
  have kp := HE.box
  have HW := HE.win
  clear HE
  refine nr ?_; intro U h; simp only [z0, z1] at h; subst h
  refine mv 8 (.bool (!op)) (wpList_nil (ja (wp_seq ?_)))
  refine jw (A := ?Ax3) 6 [(0, 54), (1, 55), (2, 56), (3, 57), (4, 58), (5, 59)] [.val (pK p 0), .val (pK p 0), .val (pK p 38), .val (pK wp 0), .val (pK g2 4), .val (iK n)] follows (by kernel_rfl) rfl ?hAx3 (jd ?o0x3 (jd ?o1x3 (jd ?o2x3 (jd ?o3x3 (jd ?o4x3 (jd ?o5x3 jM)))))) ?restx3
  case hAx3 =>
    intro ptrs
    simp only [full, foldSlots, filledE, postE, List.foldl_cons, List.foldl_nil, List.getD_cons_zero, List.getD_cons_succ, ju, List.set_cons_zero, List.set_cons_succ]
    exact rfl
  case o0x3 => exact fun _ _ _ _ => jj (v := pK p 0) _ rfl rfl rfl
  case o1x3 => exact fun _ _ hw _ => jb (v := pK p 0) rfl (jl _ rfl _ rfl)
  case o2x3 => exact fun _ _ hw _ => jb (v := pK p 38) rfl (jc 98 _ 6 rfl _ _ rfl _)
  case o3x3 => exact fun _ _ hw _ => jb (v := pK wp 0) rfl (je 95 _ rfl p 38 rfl 98 _ (hw.has kp) (na95 _) _ rfl)
  case o4x3 => exact fun _ _ hw _ => jb (v := pK g2 4) rfl (jc 129 _ 2 rfl _ _ rfl _)
  case o5x3 => exact fun _ _ hw _ => jb (v := iK n) rfl (je 2 _ rfl g2 4 rfl 129 _ (hw.has kg2) (na2 _) _ rfl)
  intro ptrs w7 GD hxE
  simp only [List.drop_succ_cons, List.drop_zero]
  replace kp := GD.has kp
  replace kg1 := GD.has kg1
  replace kg2 := GD.has kg2
  replace HW := HW.gro ((Gro.refl _).drew.trans GD)
  replace GG := GG.drew.tg GD
  clear GD
  refine jt 60 rfl rfl _ 60 Try.call60 rfl rfl _ rfl [pK wp 0, iK n] rfl (Yu _ wp B ro rc q k c HW hk hc n m hm1 hm hn) (fun _ _ ⟨_, _, he, _⟩ => ⟨_, he⟩) ?_
  rintro v w8 ⟨ao2, cap2, he, G, HW2, hkp⟩
  cases he
  replace kp := G.has kp (HW.notT kp (by decide) (by decide))
  replace kg1 := G.has kg1 (HW.notT kg1 (by decide) (by decide))
  replace kg2 := G.has kg2 (HW.notT kg2 (by decide) (by decide))
  replace hkp := hkp.mono GG.size
  replace GG := GG.trans (G.mono (fun _ h => List.mem_cons_of_mem _ h))
  clear G HW
  refine wpList_nil (ja (wp_seq (wp_region_lit (mv 61 (.bool (!op)) ?_))))
  refine nr ?_; intro U h; simp only [z0, z1] at h; subst h
  refine sv 62 (.agg (c59 false (!op) Sl.nil false Sl.nil)) (jA 59 _ rfl [(1, .bool (!op))] rfl _ (by kernel_rfl)) ?_
  refine jo rfl rfl 59 _ _ rfl g1 0 rfl (.agg (c59 false (!op) Sl.nil false Sl.nil)) rfl 59 _ kg1 (c59 false (!op) Sl.nil false Sl.nil) rfl (by kernel_rfl) (nlB rfl) (by kernel_rfl) (c59 false (!op) Sl.nil false Sl.nil) (by kernel_rfl) ?_
  intro w10 St
  replace kp := St.has (by omega) kp
  replace kg2 := St.has (by omega) kg2
  replace HW2 := HW2.stT (by decide) (by decide) (by decide) kg1 St
  replace GG := GG.st St (.inl bg1)
  replace kg1 := St.new
  clear St
  refine wpList_nil (ja (wp_ret (zh (jL ?_))))
  refine bodyPost_ret (results_cell_row Try.results45 _ _ g1 59 _ (0, 0) _ rfl kg1 Try.underlying59 rfl (by kernel_rfl)) rfl ?_
  exact ⟨_, _, _, rfl, ⟨none, 0, none, 0, [], rfl, OB.nil _ _ _ _, rfl, LF.nil _ _⟩, ⟨wp, B, ao2, cap2, q.drop m, ⟨kp, HW2⟩, List.map_drop, rfl, rfl⟩, GG, Fresh.row hkp, Fresh.drop _ _ _⟩
set_option maxHeartbeats 1000000 in
theorem uW (w : World) (p wp B : Nat) (id : Nat → Nat) (up op : Bool) (mi mn pi pn : Int) (oth : Nat → Nat) (ro : Option Addr) (rc : Nat) (q : List RV) (k c : Nat) (H : EW w p wp B id up op mi mn pi pn oth ro rc q k c) (fi fn ti tn n : Int) (ao : Option Addr) (cap : Nat) (l : List Nat) (HB : OB w 5 .u8 0 ao cap l) (kd : Int) (a : Nat → Nat) (hk : k + q.length ≤ 100000) (hc : c + 1 ≤ 100000) : Calls Try.prog 45 #[pK p 0, .iface 125 (.agg (c125 fi fn ti tn n ⟨ao, l.length, cap⟩))] w (HearP w p id (p :: wp :: blk ro) (txb q) (if withinS ⟨up, op, mi, mn, pi, pn, oth, k, (q.map (·.l)), c⟩ ⟨kd, a, fi, fn, ti, tn, n, l⟩ then cameS ⟨up, op, mi, mn, pi, pn, oth, k, (q.map (·.l)), c⟩ ⟨kd, a, fi, fn, ti, tn, n, l⟩ else (⟨up, op, mi, mn, pi, pn, oth, k, (q.map (·.l)), c⟩, PT.no))) := by
  cases hb : decide ((fi = pi ∧ fn = pn) ∧ ti = mi ∧ tn = mn)
  · rw [if_neg (show ¬ withinS ⟨up, op, mi, mn, pi, pn, oth, k, (q.map (·.l)), c⟩ ⟨kd, a, fi, fn, ti, tn, n, l⟩ from of_decide_eq_false hb)]
    exact vF w p wp B id up op mi mn pi pn oth ro rc q k c H fi fn ti tn n ao cap l HB hb
  · rw [if_pos (show withinS ⟨up, op, mi, mn, pi, pn, oth, k, (q.map (·.l)), c⟩ ⟨kd, a, fi, fn, ti, tn, n, l⟩ from of_decide_eq_true hb)]
    by_cases hn : n = ((c : Nat) : Int) + 1
    · rw [show cameS ⟨up, op, mi, mn, pi, pn, oth, k, (q.map (·.l)), c⟩ ⟨kd, a, fi, fn, ti, tn, n, l⟩ = _ from if_pos hn]
      exact vc w p wp B id up op mi mn pi pn oth ro rc q k c H fi fn ti tn n ao cap l HB hb hn hk hc (by omega)
    · rw [show cameS ⟨up, op, mi, mn, pi, pn, oth, k, (q.map (·.l)), c⟩ ⟨kd, a, fi, fn, ti, tn, n, l⟩ = _ from if_neg hn]
      exact yP w p wp B id up op mi mn pi pn oth ro rc q k c H fi fn ti tn n ao cap l HB hb hn hk hc (by omega)
set_option maxHeartbeats 1000000 in
theorem Jv (w : World) (p wp B : Nat) (id : Nat → Nat) (up op : Bool) (mi mn pi pn : Int) (oth : Nat → Nat) (ro : Option Addr) (rc : Nat) (q : List RV) (k c : Nat) (H : EW w p wp B id up op mi mn pi pn oth ro rc q k c) (fi fn ti tn n : Int) (kd : Int) (a : Nat → Nat) (l : List Nat) (hk : k + q.length ≤ 100000) (hc : c ≤ 100000) : Calls Try.prog 45 #[pK p 0, .iface 129 (.agg (c129 fi fn ti tn n))] w (HearP w p id (p :: wp :: blk ro) (txb q) (if withinS ⟨up, op, mi, mn, pi, pn, oth, k, (q.map (·.l)), c⟩ ⟨kd, a, fi, fn, ti, tn, n, l⟩ then (ackS ⟨up, true, mi, mn, pi, pn, oth, k, (q.map (·.l)), c⟩ n, ⟨false, !op, [], false, []⟩) else (⟨up, op, mi, mn, pi, pn, oth, k, (q.map (·.l)), c⟩, PT.no))) := by
  cases hb : decide ((fi = pi ∧ fn = pn) ∧ ti = mi ∧ tn = mn)
  · rw [if_neg (show ¬ withinS ⟨up, op, mi, mn, pi, pn, oth, k, (q.map (·.l)), c⟩ ⟨kd, a, fi, fn, ti, tn, n, l⟩ from of_decide_eq_false hb)]
    exact ub w p wp B id up op mi mn pi pn oth ro rc q k c H fi fn ti tn n hb
  · rw [if_pos (show withinS ⟨up, op, mi, mn, pi, pn, oth, k, (q.map (·.l)), c⟩ ⟨kd, a, fi, fn, ti, tn, n, l⟩ from of_decide_eq_true hb)]
    have e : (q.map (·.l)).length = q.length := List.length_map _
    by_cases h1 : ((k : Nat) : Int) < n
    · by_cases h2 : n ≤ ((k + q.length : Nat) : Int)
      · obtain ⟨m, hm⟩ : ∃ m : Nat, n = ((k + m : Nat) : Int) := ⟨n.toNat - k, by omega⟩
        rw [show ackS ⟨up, true, mi, mn, pi, pn, oth, k, (q.map (·.l)), c⟩ n = ⟨up, true, mi, mn, pi, pn, oth, n.toNat, ((q.map (·.l)).drop (n.toNat - k)), c⟩ from if_pos ⟨h1, by show n ≤ ((k + (q.map (·.l)).length : Nat) : Int); rw [e]; exact h2⟩]
        have e1 : n.toNat = k + m := by omega
        have e2 : k + m - k = m := by omega
        rw [e1, e2]
        exact ua w p wp B id up op mi mn pi pn oth ro rc q k c H fi fn ti tn n hb hk hc m (by omega) (by omega) hm
      · rw [show ackS ⟨up, true, mi, mn, pi, pn, oth, k, (q.map (·.l)), c⟩ n = ⟨up, true, mi, mn, pi, pn, oth, k, (q.map (·.l)), c⟩ from if_neg fun h => h2 (by have := h.2; rw [← e]; exact this)]
        exact vo w p wp B id up op mi mn pi pn oth ro rc q k c H fi fn ti tn n hb hk hc (by omega)
    · rw [show ackS ⟨up, true, mi, mn, pi, pn, oth, k, (q.map (·.l)), c⟩ n = ⟨up, true, mi, mn, pi, pn, oth, k, (q.map (·.l)), c⟩ from if_neg fun h => h1 h.1]
      exact vG w p wp B id up op mi mn pi pn oth ro rc q k c H fi fn ti tn n hb hk hc (by omega)
end Go.Proofs.Ytlfanecaglbomaa
