/- The program's end: Hear; each call, told of the end alone. -/
import Derived.Test.YtlfanecaglbomaaEH5
namespace Go.Proofs.Ytlfanecaglbomaa
set_option maxRecDepth 100000
set_option maxHeartbeats 4000000
open Go.RowKit
section
variable {w w' : World} {p wp B : Nat} {id : Nat → Nat} {up op : Bool} {mi mn pi pn : Int} {oth : Nat → Nat} {ro : Option Addr} {rc : Nat} {q : List RV} {k c : Nat}
theorem EW.gro (H : EW w p wp B id up op mi mn pi pn oth ro rc q k c) (G : Gro w w') : EW w' p wp B id up op mi mn pi pn oth ro rc q k c := ⟨G.has H.box, H.win.gro G⟩
theorem EW.stT (H : EW w p wp B id up op mi mn pi pn oth ro rc q k c) {g : Nat} {t' : TypeId} (h98 : (98 : TypeId) ≠ t') (h121 : (121 : TypeId) ≠ t') (h36 : t' ≠ 36) (h5 : t' ≠ 5) {cs : Array Value} {x : Obj} (hg : w.heap[g]? = some (.cells cs t' (0, 0))) (St : Stored w w' g x) : EW w' p wp B id up op mi mn pi pn oth ro rc q k c :=
  ⟨St.has (jy H.box hg h98) H.box, H.win.stT h121 h36 h5 hg St⟩
theorem EW.not (H : EW w p wp B id up op mi mn pi pn oth ro rc q k c) {g : Nat} {t' : TypeId} {cs : Array Value} (hg : w.heap[g]? = some (.cells cs t' (0, 0))) (h98 : t' ≠ 98) (h121 : t' ≠ 121) (h36 : t' ≠ 36) : g ∉ p :: wp :: blk ro := fun hm => by
  rcases List.mem_cons.1 hm with rfl | hm
  · exact jy hg H.box h98 rfl
  · exact H.win.notT hg h121 h36 hm
theorem EW.gros (H : EW w p wp B id up op mi mn pi pn oth ro rc q k c) {S : List Nat} (G : GroS S w w') (hS : ∀ g ∈ S, g ∉ p :: wp :: blk ro) (h5 : ∀ g ∈ S, g ∉ txb q) : EW w' p wp B id up op mi mn pi pn oth ro rc q k c :=
  ⟨G.has H.box fun h => hS _ h List.mem_cons_self, H.win.gros G (fun h => hS _ h (List.mem_cons_of_mem _ List.mem_cons_self)) (fun _k hk h => hS _ h (List.mem_cons_of_mem _ (List.mem_cons_of_mem _ hk))) (fun y hy ad ha h => h5 _ h (List.mem_flatMap.2 ⟨y, hy, mem_blk.2 ⟨ad, ha, rfl⟩⟩))⟩
theorem EW.own (H : EW w p wp B id up op mi mn pi pn oth ro rc q k c) : No5 w (p :: wp :: blk ro) := fun g hg => by
  rcases List.mem_cons.1 hg with rfl | hg
  · exact ⟨_, _, H.box, by decide⟩
  · exact H.win.own g hg
theorem EW.txt (H : EW w p wp B id up op mi mn pi pn oth ro rc q k c) : ∀ g ∈ txb q, ∃ cs, w.heap[g]? = some (.cells cs 5 (0, 0)) := fun g hg => by
  obtain ⟨y, hy, hg⟩ := List.mem_flatMap.1 hg
  obtain ⟨ad, ha, rfl⟩ := mem_blk.1 hg
  exact (H.win.fr y hy).blk5 ha
end
section
variable {w w' : World} {p : Nat} {id : Nat → Nat} {x : ES} {mu tb : List Nat}
theorem EX.gro (H : EX w p id x mu tb) (G : Gro w w') : EX w' p id x mu tb := by
  obtain ⟨wp, B, ro, rc, q, h, h1⟩ := H
  exact ⟨wp, B, ro, rc, q, h.gro G, h1⟩
theorem EX.own (H : EX w p id x mu tb) : No5 w mu := by
  obtain ⟨wp, B, ro, rc, q, h, _, rfl, _⟩ := H
  exact h.own
theorem EX.txt (H : EX w p id x mu tb) : ∀ g ∈ tb, ∃ cs, w.heap[g]? = some (.cells cs 5 (0, 0)) := by
  obtain ⟨wp, B, ro, rc, q, h, _, _, rfl⟩ := H
  exact h.txt
theorem EX.gros (H : EX w p id x mu tb) {S : List Nat} (G : GroS S w w') (hS : ∀ g ∈ S, g ∉ mu) (h5 : No5 w S) : EX w' p id x mu tb := by
  have ht := H.txt
  obtain ⟨wp, B, ro, rc, q, h, h1, rfl, rfl⟩ := H
  exact ⟨wp, B, ro, rc, q, h.gros G hS (fun g hg hm => by
    obtain ⟨c, t, h2, h3⟩ := h5 g hg
    obtain ⟨c', h4⟩ := ht g hm
    exact jy h2 h4 h3 rfl), h1, rfl, rfl⟩
theorem EX.not (H : EX w p id x mu tb) {g : Nat} {t' : TypeId} {cs : Array Value} (hg : w.heap[g]? = some (.cells cs t' (0, 0))) (h98 : t' ≠ 98) (h121 : t' ≠ 121) (h36 : t' ≠ 36) : g ∉ mu := by
  obtain ⟨wp, B, ro, rc, q, h, _, rfl, _⟩ := H
  exact h.not hg h98 h121 h36
theorem EX.stT (H : EX w p id x mu tb) {g : Nat} {t' : TypeId} (h98 : t' ≠ 98) (h121 : t' ≠ 121) (h36 : t' ≠ 36) (h5 : t' ≠ 5) {cs : Array Value} {o : Obj} (hg : w.heap[g]? = some (.cells cs t' (0, 0))) (St : Stored w w' g o) : EX w' p id x mu tb :=
  H.gros (S := [g]) ((GroS.refl [g] w).st St (.inr (by simp))) (fun k hk => by cases List.mem_singleton.1 hk; exact H.not hg h98 h121 h36) (jv hg h5)
theorem EX.lt (H : EX w p id x mu tb) : ∀ g ∈ mu, g < w.heap.size := fun g hg => by
  obtain ⟨c, t, h, _⟩ := H.own g hg
  exact jm h
end
def No46 (w : World) (S : List Nat) : Prop := ∀ k ∈ S, ∃ c t', w.heap[k]? = some (.cells c t' (0, 0)) ∧ t' ≠ 5 ∧ t' ≠ 46
theorem No46.no5 {w : World} {S : List Nat} (h : No46 w S) : No5 w S := fun k hk => by
  obtain ⟨c, t, h1, h2, _⟩ := h k hk
  exact ⟨c, t, h1, h2⟩
theorem jK {w : World} {g : Nat} {c : Array Value} {t : TypeId} (h : w.heap[g]? = some (.cells c t (0, 0))) (h5 : t ≠ 5) (h46 : t ≠ 46) : No46 w [g] := fun k hk => by
  cases List.mem_singleton.1 hk
  exact ⟨_, _, h, h5, h46⟩
theorem EX.no46 {w : World} {p : Nat} {id : Nat → Nat} {x : ES} {mu tb : List Nat} (H : EX w p id x mu tb) : No46 w mu := by
  obtain ⟨wp, B, ro, rc, q, h, _, rfl, _⟩ := H
  intro g hg
  rcases List.mem_cons.1 hg with rfl | hg
  · exact ⟨_, _, h.box, by decide, by decide⟩
  · rcases List.mem_cons.1 hg with rfl | hg
    · exact ⟨_, _, h.win.box, by decide, by decide⟩
    · obtain ⟨_, cur, hc⟩ := h.win.row.at g hg
      exact ⟨_, _, hc, by decide, by decide⟩
theorem LF.no46 {w w' : World} {B : Nat} {ao : Option Addr} {cap : Nat} {fs : List (PF × Fr)} {S : List Nat} (h : LF w B ao cap fs) (G : GroS S w w') (hS : No46 w S) : LF w' B ao cap fs :=
  h.gros G hS.no5 fun k hk hm => by
    obtain ⟨c, t, h1, _, h2⟩ := hS k hm
    exact h.row.ne h1 h2 hk
theorem TV.no46 {w w' : World} {t : PT} {v : Value} {S : List Nat} (h : TV w t v) (G : GroS S w w') (hS : No46 w S) : TV w' t v := by
  obtain ⟨ao, cap, oo, oc, fs, h1, h2, h3, h4⟩ := h
  exact ⟨ao, cap, oo, oc, fs, h1, h2.no5 G hS.no5, h3, h4.no46 G hS⟩
theorem TV.gro {w w' : World} {t : PT} {v : Value} (h : TV w t v) (G : Gro w w') : TV w' t v := by
  obtain ⟨ao, cap, oo, oc, fs, h1, h2, h3, h4⟩ := h
  exact ⟨ao, cap, oo, oc, fs, h1, h2.gro G, h3, h4.gro G⟩
theorem YK (f : Fr) (hk : f.kind = 2) (d : FD) (w : World) (HF : FrW w f d) (HS : FrS f) : Calls Try.prog 43 #[.agg (frA f)] w fun e w' => ∃ ao cap, e = .returned (.tuple #[.iface 125 (.agg (c125 f.fi f.fn f.ti f.tn f.n ⟨ao, d.tx.length, cap⟩)), vTr]) ∧ OB w' 5 .u8 0 ao cap d.tx ∧ Gro w w' :=
  (uC 2 (by decide) (by decide) f hk d w HF HS).mono fun e w' ⟨s1, s2, s3, s4, he, hO, G⟩ => by
    obtain ⟨h1, h2⟩ := Jd hO.tx hO.otx
    obtain ⟨ao, n, cap⟩ := s4
    simp only at h1 h2
    subst h1
    exact ⟨ao, cap, he, h2, G⟩
theorem ZS (f : Fr) (hk : f.kind = 1) (d : FD) (w : World) (HF : FrW w f d) (HS : FrS f) : Calls Try.prog 43 #[.agg (frA f)] w fun e w' => e = .returned (.tuple #[.iface 110 (.agg (c110 f.fi f.fn f.ti f.tn f.a)), vTr]) ∧ Gro w w' :=
  (uC 1 (by decide) (by decide) f hk d w HF HS).mono fun _ _ ⟨_, _, _, _, he, _, G⟩ => ⟨he, G⟩
theorem of_ack (f : Fr) (hk : f.kind = 3) (d : FD) (w : World) (HF : FrW w f d) (HS : FrS f) : Calls Try.prog 43 #[.agg (frA f)] w fun e w' => e = .returned (.tuple #[.iface 129 (.agg (c129 f.fi f.fn f.ti f.tn f.n)), vTr]) ∧ Gro w w' :=
  (uC 3 (by decide) (by decide) f hk d w HF HS).mono fun _ _ ⟨_, _, _, _, he, _, G⟩ => ⟨he, G⟩
theorem ZR (f : Fr) (h1 : f.kind ≠ 1) (h2 : f.kind ≠ 2) (h3 : f.kind ≠ 3) (d : FD) (w : World) (HF : FrW w f d) (HS : FrS f) : Calls Try.prog 43 #[.agg (frA f)] w fun e w' => ∃ b r, e = .returned (.tuple #[b, .bool r]) ∧ NoB b ∧ Gro w w' := by
  by_cases h : 1 ≤ f.kind ∧ f.kind ≤ 12
  · obtain ⟨k, hk⟩ : ∃ k : Nat, f.kind = (k : Int) := ⟨f.kind.toNat, by omega⟩
    exact (uC k (by omega) (by omega) f hk d w HF HS).mono fun _ _ ⟨_, _, _, _, he, _, G⟩ => ⟨_, _, he, NoB.body k (by omega) (by omega) _, G⟩
  · exact (of_not f h d w HF HS).mono fun _ _ ⟨he, G⟩ => ⟨_, _, he, NoB.nil, G⟩
theorem Zm (w : World) (p wp B : Nat) (id : Nat → Nat) (op : Bool) (mi mn pi pn : Int) (oth : Nat → Nat) (ro : Option Addr) (rc : Nat) (q : List RV) (k c : Nat) (H : EW w p wp B id false op mi mn pi pn oth ro rc q k c) (f : Fr) (ni nn : Int) : Calls Try.prog 20 #[pK p 0, .agg (frA f), .agg (c29 ni nn)] w (HearP w p id (p :: wp :: blk ro) (txb q) (⟨false, op, mi, mn, pi, pn, oth, k, (q.map (·.l)), c⟩, PT.no)) := by
  refine jq Try.func20 rfl Try.ntmps20 [pK p 0, .agg (frA f), .agg (c29 ni nn)] ?_
  intro U h; simp only [List.length_cons, List.length_nil, List.cons_append, List.nil_append, Nat.reduceAdd, Nat.reduceSub, List.reduceReplicate] at h; subst h
  have GG := Gro.refl w
  have HE := H
  refine wp_seq (wp_region_lit ?_)
  refine jE 4 rfl rfl 46 _ rfl _ rfl (frA f) rfl ?_
  intro w1 g1 G eg1 kg1
  have bg1 := jh GG eg1
  replace HE := HE.gro G
  replace GG := GG.trans G
  clear G eg1
  refine jE 5 rfl rfl 29 _ rfl _ rfl (c29 ni nn) rfl ?_
  intro w2 g2 G eg2 kg2
  have bg2 := jh GG eg2
  have dg1g2 := jf kg1 eg2
  replace kg1 := G.has kg1
  replace HE := HE.gro G
  replace GG := GG.trans G
  clear G eg2
  refine js 6 rfl rfl 59 rfl _ zv59 _ rfl ?_
  intro w3 g3 G eg3 kg3
  have bg3 := jh GG eg3
  have dg1g3 := jf kg1 eg3
  have dg2g3 := jf kg2 eg3
  replace kg1 := G.has kg1
  replace kg2 := G.has kg2
  replace HE := HE.gro G
  replace GG := GG.trans G
  clear G eg3
  refine wpList_nil (ja (wp_seq (wp_seq (wp_region_lit (mv 11 (pK p 0) ?_)))))
  refine jC 12 rfl rfl _ 28 Try.call28 rfl rfl _ rfl [pK p 0] rfl (yj _ p wp B id false op mi mn pi pn oth ro rc q k c HE) ?_
  intro w4 G
  replace kg1 := G.has kg1
  replace kg2 := G.has kg2
  replace kg3 := G.has kg3
  replace HE := HE.gro G
  replace GG := GG.trans G
  clear G
  refine sv 13 (vTr) (jU _ _ rfl false rfl) (wpList_nil (ja (wp_cond_true rfl (wp_seq (wp_region_lit (sv 14 (.agg (c59 false false Sl.nil false Sl.nil)) (jA 59 _ rfl [] rfl _ (by kernel_rfl)) ?_))))))
  refine jo rfl rfl 59 _ _ rfl g3 0 rfl (.agg (c59 false false Sl.nil false Sl.nil)) rfl 59 _ kg3 (c59 false false Sl.nil false Sl.nil) rfl (by kernel_rfl) (nlB rfl) (by kernel_rfl) (c59 false false Sl.nil false Sl.nil) (by kernel_rfl) ?_
  intro w6 St
  replace kg1 := St.has (by omega) kg1
  replace kg2 := St.has (by omega) kg2
  replace HE := HE.stT (by decide) (by decide) (by decide) (by decide) kg3 St
  replace GG := GG.store St bg3
  replace kg3 := St.new
  clear St
  refine wpList_nil (ja (wp_ret (jL ?_)))
  refine bodyPost_ret (results_cell_row Try.results20 _ _ g3 59 _ (0, 0) _ rfl kg3 Try.underlying59 rfl (by kernel_rfl)) rfl ?_
  exact ⟨_, (p :: wp :: blk ro), (txb q), rfl, TV.no _, ⟨wp, B, ro, rc, q, HE, rfl, rfl, rfl⟩, GroS.of GG, Fresh.refl _ _, Fresh.refl _ _⟩
theorem JF (w : World) (p wp B : Nat) (id : Nat → Nat) (op : Bool) (mi mn pi pn : Int) (oth : Nat → Nat) (ro : Option Addr) (rc : Nat) (q : List RV) (k c : Nat) (H : EW w p wp B id true op mi mn pi pn oth ro rc q k c) (f : Fr) (d : FD) (HF : FrW w f d) (HS : FrS f) (ni nn : Int) (hk : k + q.length ≤ 100000) (hc : c + 1 ≤ 100000) (hf : f.kind = 1) : Calls Try.prog 20 #[pK p 0, .agg (frA f), .agg (c29 ni nn)] w (HearP w p id (p :: wp :: blk ro) (txb q) (helloS id ⟨true, op, mi, mn, pi, pn, oth, k, (q.map (·.l)), c⟩ (pin f d) ni nn)) := by
  refine jq Try.func20 rfl Try.ntmps20 [pK p 0, .agg (frA f), .agg (c29 ni nn)] ?_
  intro U h; simp only [List.length_cons, List.length_nil, List.cons_append, List.nil_append, Nat.reduceAdd, Nat.reduceSub, List.reduceReplicate] at h; subst h
  have GG := Gro.refl w
  have HE := H
  refine wp_seq (wp_region_lit ?_)
  refine jE 4 rfl rfl 46 _ rfl _ rfl (frA f) rfl ?_
  intro w1 g1 G eg1 kg1
  have bg1 := jh GG eg1
  replace HE := HE.gro G
  replace GG := GG.trans G
  clear G eg1
  refine jE 5 rfl rfl 29 _ rfl _ rfl (c29 ni nn) rfl ?_
  intro w2 g2 G eg2 kg2
  have bg2 := jh GG eg2
  have dg1g2 := jf kg1 eg2
  replace kg1 := G.has kg1
  replace HE := HE.gro G
  replace GG := GG.trans G
  clear G eg2
  refine js 6 rfl rfl 59 rfl _ zv59 _ rfl ?_
  intro w3 g3 G eg3 kg3
  have bg3 := jh GG eg3
  have dg1g3 := jf kg1 eg3
  have dg2g3 := jf kg2 eg3
  replace kg1 := G.has kg1
  replace kg2 := G.has kg2
  replace HE := HE.gro G
  replace GG := GG.trans G
  clear G eg3
  refine wpList_nil (ja (wp_seq (wp_seq (wp_region_lit (mv 11 (pK p 0) ?_)))))
  refine jC 12 rfl rfl _ 28 Try.call28 rfl rfl _ rfl [pK p 0] rfl (yj _ p wp B id true op mi mn pi pn oth ro rc q k c HE) ?_
  intro w4 G
  replace kg1 := G.has kg1
  replace kg2 := G.has kg2
  replace kg3 := G.has kg3
  replace HE := HE.gro G
  replace GG := GG.trans G
  clear G
  refine sv 13 (vFa) (jU _ _ rfl true rfl) (wpList_nil (ja (wp_cond_false rfl (wp_skip (ja (wp_seq (wp_region_lit (sv 16 (.agg (frA f)) (jk 46 _ rfl g1 0 95 rfl 46 _ kg1 _ Try.underlying46 rfl si46 _) ?_))))))))
  refine jC 17 rfl rfl _ 43 Try.call43 rfl rfl _ rfl [.agg (frA f)] rfl (ZS f hf d _ (HF.gro GG) HS) ?_
  intro w5 G
  replace kg1 := G.has kg1
  replace kg2 := G.has kg2
  replace kg3 := G.has kg3
  replace HE := HE.gro G
  replace GG := GG.trans G
  clear G
  refine mv 15 (.tuple #[.iface 110 (.agg (c110 f.fi f.fn f.ti f.tn f.a)), vTr]) ?_
  refine nr ?_; intro U h; simp only [z0, z1] at h; subst h
  refine mv 18 (.iface 110 (.agg (c110 f.fi f.fn f.ti f.tn f.a))) (mv 19 (vTr) (mv 7 (.iface 110 (.agg (c110 f.fi f.fn f.ti f.tn f.a))) (mv 8 (vTr) (wpList_nil (ja (wp_seq (wp_seq (wp_region_lit (mv 21 (.iface 110 (.agg (c110 f.fi f.fn f.ti f.tn f.a))) ?_)))))))))
  refine sv 22 (.tuple #[.agg (c110 f.fi f.fn f.ti f.tn f.a), vTr]) (jx _ 106 110 true rfl _ _ rfl) (mv 20 (.tuple #[.agg (c110 f.fi f.fn f.ti f.tn f.a), vTr]) (mv 23 (.agg (c110 f.fi f.fn f.ti f.tn f.a)) (mv 24 (vTr) ?_)))
  refine nr ?_; intro U h; simp only [z0, z1] at h; subst h
  refine js 9 rfl rfl 110 rfl _ zv110 _ rfl ?_
  intro w6 g4 G eg4 kg4
  have bg4 := jh GG eg4
  have dg1g4 := jf kg1 eg4
  have dg2g4 := jf kg2 eg4
  have dg3g4 := jf kg3 eg4
  replace kg1 := G.has kg1
  replace kg2 := G.has kg2
  replace kg3 := G.has kg3
  replace HE := HE.gro G
  replace GG := GG.trans G
  clear G eg4
  refine jo rfl rfl 110 _ _ rfl g4 0 rfl (.agg (c110 f.fi f.fn f.ti f.tn f.a)) rfl 110 _ kg4 (c110 f.fi f.fn f.ti f.tn f.a) rfl (by kernel_rfl) (nlB rfl) (by kernel_rfl) (c110 f.fi f.fn f.ti f.tn f.a) (by kernel_rfl) ?_
  intro w8 St
  replace kg1 := St.has (by omega) kg1
  replace kg2 := St.has (by omega) kg2
  replace kg3 := St.has (by omega) kg3
  replace HE := HE.stT (by decide) (by decide) (by decide) (by decide) kg4 St
  replace GG := GG.store St bg4
  replace kg4 := St.new
  clear St
  refine mv 10 (vTr) (wpList_nil (ja (wp_seq (wp_region_lit (mv 25 (vTr) (wpList_nil (ja (wp_cond_true rfl (wp_seq (wp_region_lit (mv 26 (pK p 0) (sv 27 (.agg (c110 f.fi f.fn f.ti f.tn f.a)) (jk 110 _ rfl g4 0 20 rfl 110 _ kg4 _ Try.underlying110 rfl si110 _) (sv 28 (.agg (c29 ni nn)) (jk 29 _ rfl g2 0 2 rfl 29 _ kg2 _ Try.underlying29 rfl si29 _) ?_)))))))))))))
  refine nr ?_; intro U h; simp only [z0, z1] at h; subst h
  have HC := (show Calls Try.prog 44 #[_, _, _] _ (HearP _ p id (p :: wp :: blk ro) (txb q) (helloS id ⟨true, op, mi, mn, pi, pn, oth, k, (q.map (·.l)), c⟩ (pin f d) ni nn)) from Jg _ p wp B id true op mi mn pi pn oth ro rc q k c HE f.fi f.fn f.ti f.tn f.a ni nn f.n f.kind d.tx hk (by omega))
  obtain ⟨r0, hr0⟩ : ∃ r0, ((helloS id ⟨true, op, mi, mn, pi, pn, oth, k, (q.map (·.l)), c⟩ (pin f d) ni nn) : ES × PT) = r0 := ⟨_, rfl⟩
  rw [hr0] at HC
  rw [hr0]
  refine jt 29 rfl rfl _ 44 Try.call44 rfl rfl _ rfl [pK p 0, .agg (c110 f.fi f.fn f.ti f.tn f.a), .agg (c29 ni nn)] rfl (HC) (fun _ _ ⟨_, _, _, he, _⟩ => ⟨_, he⟩) ?_
  rintro v w9 ⟨v0, mu1, tb1, he, HT, HX, G, F1, F2⟩
  cases he
  replace kg1 := G.has kg1 (HE.not kg1 (by decide) (by decide) (by decide))
  replace kg2 := G.has kg2 (HE.not kg2 (by decide) (by decide) (by decide))
  replace kg3 := G.has kg3 (HE.not kg3 (by decide) (by decide) (by decide))
  replace kg4 := G.has kg4 (HE.not kg4 (by decide) (by decide) (by decide))
  replace F1 : Fresh w _ mu1 := fun g hg => (F1 g hg).imp (fun h => h) fun h => Nat.le_trans GG.size h
  replace F2 : Fresh w _ tb1 := fun g hg => (F2 g hg).imp (fun h => h) fun h => Nat.le_trans GG.size h
  have GH := (GroS.of GG).trans G
  clear GG G HE HC
  have GG := GH
  clear GH
  have hv0 := HT
  obtain ⟨ao0, cap0, oo0, oc0, fs0, hv, _⟩ := hv0
  subst hv
  refine jo rfl rfl 59 _ _ rfl g3 0 rfl (.agg (c59 r0.2.died r0.2.opened ⟨ao0, r0.2.tx.length, cap0⟩ r0.2.came ⟨oo0, fs0.length, oc0⟩)) rfl 59 _ kg3 (c59 r0.2.died r0.2.opened ⟨ao0, r0.2.tx.length, cap0⟩ r0.2.came ⟨oo0, fs0.length, oc0⟩) rfl (by kernel_rfl) (nlB rfl) (by kernel_rfl) (c59 r0.2.died r0.2.opened ⟨ao0, r0.2.tx.length, cap0⟩ r0.2.came ⟨oo0, fs0.length, oc0⟩) (by kernel_rfl) ?_
  intro w11 St
  replace kg1 := St.has (by omega) kg1
  replace kg2 := St.has (by omega) kg2
  replace kg4 := St.has (by omega) kg4
  replace HX := HX.stT (by decide) (by decide) (by decide) (by decide) kg3 St
  replace HT := HT.no46 ((GroS.refl [g3] _).st St (.inr (by simp))) (jK kg3 (by decide) (by decide))
  replace GG := GG.st St (.inl bg3)
  replace kg3 := St.new
  clear St
  refine wpList_nil (ja (wp_ret (jL ?_)))
  refine bodyPost_ret (results_cell_row Try.results20 _ _ g3 59 _ (0, 0) _ rfl kg3 Try.underlying59 rfl (by kernel_rfl)) rfl ?_
  exact ⟨_, mu1, tb1, rfl, HT, HX, GG, F1, F2⟩
theorem Zn (w : World) (p wp B : Nat) (id : Nat → Nat) (op : Bool) (mi mn pi pn : Int) (oth : Nat → Nat) (ro : Option Addr) (rc : Nat) (q : List RV) (k c : Nat) (H : EW w p wp B id true op mi mn pi pn oth ro rc q k c) (f : Fr) (d : FD) (HF : FrW w f d) (HS : FrS f) (ni nn : Int) (hk : k + q.length ≤ 100000) (hc : c + 1 ≤ 100000) (hf : f.kind = 2) : Calls Try.prog 20 #[pK p 0, .agg (frA f), .agg (c29 ni nn)] w (HearP w p id (p :: wp :: blk ro) (txb q) (if withinS ⟨true, op, mi, mn, pi, pn, oth, k, (q.map (·.l)), c⟩ (pin f d) then cameS ⟨true, op, mi, mn, pi, pn, oth, k, (q.map (·.l)), c⟩ (pin f d) else (⟨true, op, mi, mn, pi, pn, oth, k, (q.map (·.l)), c⟩, PT.no))) := by
  refine jq Try.func20 rfl Try.ntmps20 [pK p 0, .agg (frA f), .agg (c29 ni nn)] ?_
  intro U h; simp only [List.length_cons, List.length_nil, List.cons_append, List.nil_append, Nat.reduceAdd, Nat.reduceSub, List.reduceReplicate] at h; subst h
  have GG := Gro.refl w
  have HE := H
  refine wp_seq (wp_region_lit ?_)
  refine jE 4 rfl rfl 46 _ rfl _ rfl (frA f) rfl ?_
  intro w1 g1 G eg1 kg1
  have bg1 := jh GG eg1
  replace HE := HE.gro G
  replace GG := GG.trans G
  clear G eg1
  refine jE 5 rfl rfl 29 _ rfl _ rfl (c29 ni nn) rfl ?_
  intro w2 g2 G eg2 kg2
  have bg2 := jh GG eg2
  have dg1g2 := jf kg1 eg2
  replace kg1 := G.has kg1
  replace HE := HE.gro G
  replace GG := GG.trans G
  clear G eg2
  refine js 6 rfl rfl 59 rfl _ zv59 _ rfl ?_
  intro w3 g3 G eg3 kg3
  have bg3 := jh GG eg3
  have dg1g3 := jf kg1 eg3
  have dg2g3 := jf kg2 eg3
  replace kg1 := G.has kg1
  replace kg2 := G.has kg2
  replace HE := HE.gro G
  replace GG := GG.trans G
  clear G eg3
  refine wpList_nil (ja (wp_seq (wp_seq (wp_region_lit (mv 11 (pK p 0) ?_)))))
  refine jC 12 rfl rfl _ 28 Try.call28 rfl rfl _ rfl [pK p 0] rfl (yj _ p wp B id true op mi mn pi pn oth ro rc q k c HE) ?_
  intro w4 G
  replace kg1 := G.has kg1
  replace kg2 := G.has kg2
  replace kg3 := G.has kg3
  replace HE := HE.gro G
  replace GG := GG.trans G
  clear G
  refine sv 13 (vFa) (jU _ _ rfl true rfl) (wpList_nil (ja (wp_cond_false rfl (wp_skip (ja (wp_seq (wp_region_lit (sv 16 (.agg (frA f)) (jk 46 _ rfl g1 0 95 rfl 46 _ kg1 _ Try.underlying46 rfl si46 _) ?_))))))))
  refine jt 17 rfl rfl _ 43 Try.call43 rfl rfl _ rfl [.agg (frA f)] rfl (YK f hf d _ (HF.gro GG) HS) (fun _ _ ⟨_, _, he, _⟩ => ⟨_, he⟩) ?_
  rintro v w5 ⟨ao, cap, he, HB5, G⟩
  cases he
  replace kg1 := G.has kg1
  replace kg2 := G.has kg2
  replace kg3 := G.has kg3
  replace HE := HE.gro G
  replace GG := GG.trans G
  clear G
  refine mv 15 (.tuple #[.iface 125 (.agg (c125 f.fi f.fn f.ti f.tn f.n ⟨ao, d.tx.length, cap⟩)), vTr]) ?_
  refine nr ?_; intro U h; simp only [z0, z1] at h; subst h
  refine mv 18 (.iface 125 (.agg (c125 f.fi f.fn f.ti f.tn f.n ⟨ao, d.tx.length, cap⟩))) (mv 19 (vTr) (mv 7 (.iface 125 (.agg (c125 f.fi f.fn f.ti f.tn f.n ⟨ao, d.tx.length, cap⟩))) (mv 8 (vTr) (wpList_nil (ja (wp_seq (wp_seq (wp_region_lit (mv 21 (.iface 125 (.agg (c125 f.fi f.fn f.ti f.tn f.n ⟨ao, d.tx.length, cap⟩))) ?_)))))))))
  refine sv 22 (.tuple #[.agg (c110 0 0 0 0 zF), vFa]) (jx _ 106 110 true rfl _ _ rfl) (mv 20 (.tuple #[.agg (c110 0 0 0 0 zF), vFa]) (mv 23 (.agg (c110 0 0 0 0 zF)) (mv 24 (vFa) ?_)))
  refine nr ?_; intro U h; simp only [z0, z1] at h; subst h
  refine js 9 rfl rfl 110 rfl _ zv110 _ rfl ?_
  intro w6 g4 G eg4 kg4
  have bg4 := jh GG eg4
  have dg1g4 := jf kg1 eg4
  have dg2g4 := jf kg2 eg4
  have dg3g4 := jf kg3 eg4
  replace kg1 := G.has kg1
  replace kg2 := G.has kg2
  replace kg3 := G.has kg3
  replace HE := HE.gro G
  replace HB5 := HB5.gro G
  replace GG := GG.trans G
  clear G eg4
  refine jo rfl rfl 110 _ _ rfl g4 0 rfl (.agg (c110 0 0 0 0 zF)) rfl 110 _ kg4 (c110 0 0 0 0 zF) rfl (by kernel_rfl) (nlB rfl) (by kernel_rfl) (c110 0 0 0 0 zF) (by kernel_rfl) ?_
  intro w8 St
  replace kg1 := St.has (by omega) kg1
  replace kg2 := St.has (by omega) kg2
  replace kg3 := St.has (by omega) kg3
  replace HE := HE.stT (by decide) (by decide) (by decide) (by decide) kg4 St
  replace HB5 := HB5.no5 ((GroS.refl [g4] _).st St (.inr (by simp))) (jv kg4 (by decide))
  replace GG := GG.store St bg4
  replace kg4 := St.new
  clear St
  refine mv 10 (vFa) (wpList_nil (ja (wp_seq (wp_region_lit (mv 25 (vFa) (wpList_nil (ja (wp_cond_false rfl (wp_skip (ja (wp_seq (wp_region_lit (mv 30 (pK p 0) (mv 31 (.iface 125 (.agg (c125 f.fi f.fn f.ti f.tn f.n ⟨ao, d.tx.length, cap⟩))) ?_))))))))))))))
  refine nr ?_; intro U h; simp only [z0, z1] at h; subst h
  have HC := (show Calls Try.prog 45 #[_, _] _ (HearP _ p id (p :: wp :: blk ro) (txb q) (if withinS ⟨true, op, mi, mn, pi, pn, oth, k, (q.map (·.l)), c⟩ (pin f d) then cameS ⟨true, op, mi, mn, pi, pn, oth, k, (q.map (·.l)), c⟩ (pin f d) else (⟨true, op, mi, mn, pi, pn, oth, k, (q.map (·.l)), c⟩, PT.no))) from uW _ p wp B id true op mi mn pi pn oth ro rc q k c HE f.fi f.fn f.ti f.tn f.n ao cap d.tx HB5 f.kind f.a hk hc)
  obtain ⟨r0, hr0⟩ : ∃ r0, ((if withinS ⟨true, op, mi, mn, pi, pn, oth, k, (q.map (·.l)), c⟩ (pin f d) then cameS ⟨true, op, mi, mn, pi, pn, oth, k, (q.map (·.l)), c⟩ (pin f d) else (⟨true, op, mi, mn, pi, pn, oth, k, (q.map (·.l)), c⟩, PT.no)) : ES × PT) = r0 := ⟨_, rfl⟩
  rw [hr0] at HC
  rw [hr0]
  refine jt 32 rfl rfl _ 45 Try.call45 rfl rfl _ rfl [pK p 0, .iface 125 (.agg (c125 f.fi f.fn f.ti f.tn f.n ⟨ao, d.tx.length, cap⟩))] rfl (HC) (fun _ _ ⟨_, _, _, he, _⟩ => ⟨_, he⟩) ?_
  rintro v w9 ⟨v0, mu1, tb1, he, HT, HX, G, F1, F2⟩
  cases he
  replace kg1 := G.has kg1 (HE.not kg1 (by decide) (by decide) (by decide))
  replace kg2 := G.has kg2 (HE.not kg2 (by decide) (by decide) (by decide))
  replace kg3 := G.has kg3 (HE.not kg3 (by decide) (by decide) (by decide))
  replace kg4 := G.has kg4 (HE.not kg4 (by decide) (by decide) (by decide))
  replace F1 : Fresh w _ mu1 := fun g hg => (F1 g hg).imp (fun h => h) fun h => Nat.le_trans GG.size h
  replace F2 : Fresh w _ tb1 := fun g hg => (F2 g hg).imp (fun h => h) fun h => Nat.le_trans GG.size h
  have GH := (GroS.of GG).trans G
  clear GG G HE HC
  have GG := GH
  clear GH
  have hv0 := HT
  obtain ⟨ao0, cap0, oo0, oc0, fs0, hv, _⟩ := hv0
  subst hv
  refine jo rfl rfl 59 _ _ rfl g3 0 rfl (.agg (c59 r0.2.died r0.2.opened ⟨ao0, r0.2.tx.length, cap0⟩ r0.2.came ⟨oo0, fs0.length, oc0⟩)) rfl 59 _ kg3 (c59 r0.2.died r0.2.opened ⟨ao0, r0.2.tx.length, cap0⟩ r0.2.came ⟨oo0, fs0.length, oc0⟩) rfl (by kernel_rfl) (nlB rfl) (by kernel_rfl) (c59 r0.2.died r0.2.opened ⟨ao0, r0.2.tx.length, cap0⟩ r0.2.came ⟨oo0, fs0.length, oc0⟩) (by kernel_rfl) ?_
  intro w11 St
  replace kg1 := St.has (by omega) kg1
  replace kg2 := St.has (by omega) kg2
  replace kg4 := St.has (by omega) kg4
  replace HX := HX.stT (by decide) (by decide) (by decide) (by decide) kg3 St
  replace HT := HT.no46 ((GroS.refl [g3] _).st St (.inr (by simp))) (jK kg3 (by decide) (by decide))
  replace GG := GG.st St (.inl bg3)
  replace kg3 := St.new
  clear St
  refine wpList_nil (ja (wp_ret ?_))
  refine bodyPost_ret (results_cell_row Try.results20 _ _ g3 59 _ (0, 0) _ rfl kg3 Try.underlying59 rfl (by kernel_rfl)) rfl ?_
  exact ⟨_, mu1, tb1, rfl, HT, HX, GG, F1, F2⟩
theorem Ya (w : World) (p wp B : Nat) (id : Nat → Nat) (op : Bool) (mi mn pi pn : Int) (oth : Nat → Nat) (ro : Option Addr) (rc : Nat) (q : List RV) (k c : Nat) (H : EW w p wp B id true op mi mn pi pn oth ro rc q k c) (f : Fr) (d : FD) (HF : FrW w f d) (HS : FrS f) (ni nn : Int) (hk : k + q.length ≤ 100000) (hc : c + 1 ≤ 100000) (hf : f.kind = 3) : Calls Try.prog 20 #[pK p 0, .agg (frA f), .agg (c29 ni nn)] w (HearP w p id (p :: wp :: blk ro) (txb q) (if withinS ⟨true, op, mi, mn, pi, pn, oth, k, (q.map (·.l)), c⟩ (pin f d) then (ackS ⟨true, true, mi, mn, pi, pn, oth, k, (q.map (·.l)), c⟩ (pin f d).n, (⟨false, !op, [], false, []⟩ : PT)) else (⟨true, op, mi, mn, pi, pn, oth, k, (q.map (·.l)), c⟩, PT.no))) := by
  refine jq Try.func20 rfl Try.ntmps20 [pK p 0, .agg (frA f), .agg (c29 ni nn)] ?_
  intro U h; simp only [List.length_cons, List.length_nil, List.cons_append, List.nil_append, Nat.reduceAdd, Nat.reduceSub, List.reduceReplicate] at h; subst h
  have GG := Gro.refl w
  have HE := H
  refine wp_seq (wp_region_lit ?_)
  refine jE 4 rfl rfl 46 _ rfl _ rfl (frA f) rfl ?_
  intro w1 g1 G eg1 kg1
  have bg1 := jh GG eg1
  replace HE := HE.gro G
  replace GG := GG.trans G
  clear G eg1
  refine jE 5 rfl rfl 29 _ rfl _ rfl (c29 ni nn) rfl ?_
  intro w2 g2 G eg2 kg2
  have bg2 := jh GG eg2
  have dg1g2 := jf kg1 eg2
  replace kg1 := G.has kg1
  replace HE := HE.gro G
  replace GG := GG.trans G
  clear G eg2
  refine js 6 rfl rfl 59 rfl _ zv59 _ rfl ?_
  intro w3 g3 G eg3 kg3
  have bg3 := jh GG eg3
  have dg1g3 := jf kg1 eg3
  have dg2g3 := jf kg2 eg3
  replace kg1 := G.has kg1
  replace kg2 := G.has kg2
  replace HE := HE.gro G
  replace GG := GG.trans G
  clear G eg3
  refine wpList_nil (ja (wp_seq (wp_seq (wp_region_lit (mv 11 (pK p 0) ?_)))))
  refine jC 12 rfl rfl _ 28 Try.call28 rfl rfl _ rfl [pK p 0] rfl (yj _ p wp B id true op mi mn pi pn oth ro rc q k c HE) ?_
  intro w4 G
  replace kg1 := G.has kg1
  replace kg2 := G.has kg2
  replace kg3 := G.has kg3
  replace HE := HE.gro G
  replace GG := GG.trans G
  clear G
  refine sv 13 (vFa) (jU _ _ rfl true rfl) (wpList_nil (ja (wp_cond_false rfl (wp_skip (ja (wp_seq (wp_region_lit (sv 16 (.agg (frA f)) (jk 46 _ rfl g1 0 95 rfl 46 _ kg1 _ Try.underlying46 rfl si46 _) ?_))))))))
  refine jC 17 rfl rfl _ 43 Try.call43 rfl rfl _ rfl [.agg (frA f)] rfl (of_ack f hf d _ (HF.gro GG) HS) ?_
  intro w5 G
  replace kg1 := G.has kg1
  replace kg2 := G.has kg2
  replace kg3 := G.has kg3
  replace HE := HE.gro G
  replace GG := GG.trans G
  clear G
  refine mv 15 (.tuple #[.iface 129 (.agg (c129 f.fi f.fn f.ti f.tn f.n)), vTr]) ?_
  refine nr ?_; intro U h; simp only [z0, z1] at h; subst h
  refine mv 18 (.iface 129 (.agg (c129 f.fi f.fn f.ti f.tn f.n))) (mv 19 (vTr) (mv 7 (.iface 129 (.agg (c129 f.fi f.fn f.ti f.tn f.n))) (mv 8 (vTr) (wpList_nil (ja (wp_seq (wp_seq (wp_region_lit (mv 21 (.iface 129 (.agg (c129 f.fi f.fn f.ti f.tn f.n))) ?_)))))))))
  refine sv 22 (.tuple #[.agg (c110 0 0 0 0 zF), vFa]) (jx _ 106 110 true rfl _ _ rfl) (mv 20 (.tuple #[.agg (c110 0 0 0 0 zF), vFa]) (mv 23 (.agg (c110 0 0 0 0 zF)) (mv 24 (vFa) ?_)))
  refine nr ?_; intro U h; simp only [z0, z1] at h; subst h
  refine js 9 rfl rfl 110 rfl _ zv110 _ rfl ?_
  intro w6 g4 G eg4 kg4
  have bg4 := jh GG eg4
  have dg1g4 := jf kg1 eg4
  have dg2g4 := jf kg2 eg4
  have dg3g4 := jf kg3 eg4
  replace kg1 := G.has kg1
  replace kg2 := G.has kg2
  replace kg3 := G.has kg3
  replace HE := HE.gro G
  replace GG := GG.trans G
  clear G eg4
  refine jo rfl rfl 110 _ _ rfl g4 0 rfl (.agg (c110 0 0 0 0 zF)) rfl 110 _ kg4 (c110 0 0 0 0 zF) rfl (by kernel_rfl) (nlB rfl) (by kernel_rfl) (c110 0 0 0 0 zF) (by kernel_rfl) ?_
  intro w8 St
  replace kg1 := St.has (by omega) kg1
  replace kg2 := St.has (by omega) kg2
  replace kg3 := St.has (by omega) kg3
  replace HE := HE.stT (by decide) (by decide) (by decide) (by decide) kg4 St
  replace GG := GG.store St bg4
  replace kg4 := St.new
  clear St
  refine mv 10 (vFa) (wpList_nil (ja (wp_seq (wp_region_lit (mv 25 (vFa) (wpList_nil (ja (wp_cond_false rfl (wp_skip (ja (wp_seq (wp_region_lit (mv 30 (pK p 0) (mv 31 (.iface 129 (.agg (c129 f.fi f.fn f.ti f.tn f.n))) ?_))))))))))))))
  refine nr ?_; intro U h; simp only [z0, z1] at h; subst h
  have HC := (show Calls Try.prog 45 #[_, _] _ (HearP _ p id (p :: wp :: blk ro) (txb q) (if withinS ⟨true, op, mi, mn, pi, pn, oth, k, (q.map (·.l)), c⟩ (pin f d) then (ackS ⟨true, true, mi, mn, pi, pn, oth, k, (q.map (·.l)), c⟩ (pin f d).n, (⟨false, !op, [], false, []⟩ : PT)) else (⟨true, op, mi, mn, pi, pn, oth, k, (q.map (·.l)), c⟩, PT.no))) from Jv _ p wp B id true op mi mn pi pn oth ro rc q k c HE f.fi f.fn f.ti f.tn f.n f.kind f.a d.tx hk (by omega))
  obtain ⟨r0, hr0⟩ : ∃ r0, ((if withinS ⟨true, op, mi, mn, pi, pn, oth, k, (q.map (·.l)), c⟩ (pin f d) then (ackS ⟨true, true, mi, mn, pi, pn, oth, k, (q.map (·.l)), c⟩ (pin f d).n, (⟨false, !op, [], false, []⟩ : PT)) else (⟨true, op, mi, mn, pi, pn, oth, k, (q.map (·.l)), c⟩, PT.no)) : ES × PT) = r0 := ⟨_, rfl⟩
  rw [hr0] at HC
  rw [hr0]
  refine jt 32 rfl rfl _ 45 Try.call45 rfl rfl _ rfl [pK p 0, .iface 129 (.agg (c129 f.fi f.fn f.ti f.tn f.n))] rfl (HC) (fun _ _ ⟨_, _, _, he, _⟩ => ⟨_, he⟩) ?_
  rintro v w9 ⟨v0, mu1, tb1, he, HT, HX, G, F1, F2⟩
  cases he
  replace kg1 := G.has kg1 (HE.not kg1 (by decide) (by decide) (by decide))
  replace kg2 := G.has kg2 (HE.not kg2 (by decide) (by decide) (by decide))
  replace kg3 := G.has kg3 (HE.not kg3 (by decide) (by decide) (by decide))
  replace kg4 := G.has kg4 (HE.not kg4 (by decide) (by decide) (by decide))
  replace F1 : Fresh w _ mu1 := fun g hg => (F1 g hg).imp (fun h => h) fun h => Nat.le_trans GG.size h
  replace F2 : Fresh w _ tb1 := fun g hg => (F2 g hg).imp (fun h => h) fun h => Nat.le_trans GG.size h
  have GH := (GroS.of GG).trans G
  clear GG G HE HC
  have GG := GH
  clear GH
  have hv0 := HT
  obtain ⟨ao0, cap0, oo0, oc0, fs0, hv, _⟩ := hv0
  subst hv
  refine jo rfl rfl 59 _ _ rfl g3 0 rfl (.agg (c59 r0.2.died r0.2.opened ⟨ao0, r0.2.tx.length, cap0⟩ r0.2.came ⟨oo0, fs0.length, oc0⟩)) rfl 59 _ kg3 (c59 r0.2.died r0.2.opened ⟨ao0, r0.2.tx.length, cap0⟩ r0.2.came ⟨oo0, fs0.length, oc0⟩) rfl (by kernel_rfl) (nlB rfl) (by kernel_rfl) (c59 r0.2.died r0.2.opened ⟨ao0, r0.2.tx.length, cap0⟩ r0.2.came ⟨oo0, fs0.length, oc0⟩) (by kernel_rfl) ?_
  intro w11 St
  replace kg1 := St.has (by omega) kg1
  replace kg2 := St.has (by omega) kg2
  replace kg4 := St.has (by omega) kg4
  replace HX := HX.stT (by decide) (by decide) (by decide) (by decide) kg3 St
  replace HT := HT.no46 ((GroS.refl [g3] _).st St (.inr (by simp))) (jK kg3 (by decide) (by decide))
  replace GG := GG.st St (.inl bg3)
  replace kg3 := St.new
  clear St
  refine wpList_nil (ja (wp_ret ?_))
  refine bodyPost_ret (results_cell_row Try.results20 _ _ g3 59 _ (0, 0) _ rfl kg3 Try.underlying59 rfl (by kernel_rfl)) rfl ?_
  exact ⟨_, mu1, tb1, rfl, HT, HX, GG, F1, F2⟩
theorem JD (w : World) (p wp B : Nat) (id : Nat → Nat) (op : Bool) (mi mn pi pn : Int) (oth : Nat → Nat) (ro : Option Addr) (rc : Nat) (q : List RV) (k c : Nat) (H : EW w p wp B id true op mi mn pi pn oth ro rc q k c) (f : Fr) (d : FD) (HF : FrW w f d) (HS : FrS f) (ni nn : Int) (_hk : k + q.length ≤ 100000) (_hc : c + 1 ≤ 100000) (hf : f.kind ≠ 1 ∧ f.kind ≠ 2 ∧ f.kind ≠ 3) : Calls Try.prog 20 #[pK p 0, .agg (frA f), .agg (c29 ni nn)] w (HearP w p id (p :: wp :: blk ro) (txb q) (⟨true, op, mi, mn, pi, pn, oth, k, (q.map (·.l)), c⟩, PT.no)) := by
  refine jq Try.func20 rfl Try.ntmps20 [pK p 0, .agg (frA f), .agg (c29 ni nn)] ?_
  intro U h; simp only [List.length_cons, List.length_nil, List.cons_append, List.nil_append, Nat.reduceAdd, Nat.reduceSub, List.reduceReplicate] at h; subst h
  have GG := Gro.refl w
  have HE := H
  refine wp_seq (wp_region_lit ?_)
  refine jE 4 rfl rfl 46 _ rfl _ rfl (frA f) rfl ?_
  intro w1 g1 G eg1 kg1
  have bg1 := jh GG eg1
  replace HE := HE.gro G
  replace GG := GG.trans G
  clear G eg1
  refine jE 5 rfl rfl 29 _ rfl _ rfl (c29 ni nn) rfl ?_
  intro w2 g2 G eg2 kg2
  have bg2 := jh GG eg2
  have dg1g2 := jf kg1 eg2
  replace kg1 := G.has kg1
  replace HE := HE.gro G
  replace GG := GG.trans G
  clear G eg2
  refine js 6 rfl rfl 59 rfl _ zv59 _ rfl ?_
  intro w3 g3 G eg3 kg3
  have bg3 := jh GG eg3
  have dg1g3 := jf kg1 eg3
  have dg2g3 := jf kg2 eg3
  replace kg1 := G.has kg1
  replace kg2 := G.has kg2
  replace HE := HE.gro G
  replace GG := GG.trans G
  clear G eg3
  refine wpList_nil (ja (wp_seq (wp_seq (wp_region_lit (mv 11 (pK p 0) ?_)))))
  refine jC 12 rfl rfl _ 28 Try.call28 rfl rfl _ rfl [pK p 0] rfl (yj _ p wp B id true op mi mn pi pn oth ro rc q k c HE) ?_
  intro w4 G
  replace kg1 := G.has kg1
  replace kg2 := G.has kg2
  replace kg3 := G.has kg3
  replace HE := HE.gro G
  replace GG := GG.trans G
  clear G
  refine sv 13 (vFa) (jU _ _ rfl true rfl) (wpList_nil (ja (wp_cond_false rfl (wp_skip (ja (wp_seq (wp_region_lit (sv 16 (.agg (frA f)) (jk 46 _ rfl g1 0 95 rfl 46 _ kg1 _ Try.underlying46 rfl si46 _) ?_))))))))
  refine jt 17 rfl rfl _ 43 Try.call43 rfl rfl _ rfl [.agg (frA f)] rfl (ZR f hf.1 hf.2.1 hf.2.2 d _ (HF.gro GG) HS) (fun _ _ ⟨_, _, he, _⟩ => ⟨_, he⟩) ?_
  rintro v w5 ⟨b, r, he, hbo, G⟩
  cases he
  replace kg1 := G.has kg1
  replace kg2 := G.has kg2
  replace kg3 := G.has kg3
  replace HE := HE.gro G
  replace GG := GG.trans G
  clear G
  refine mv 15 (.tuple #[b, .bool r]) ?_
  refine nr ?_; intro U h; simp only [z0, z1] at h; subst h
  refine mv 18 (b) (mv 19 (.bool r) (mv 7 (b) (mv 8 (.bool r) (wpList_nil (ja (wp_seq (wp_seq (wp_region_lit (mv 21 (b) ?_)))))))))
  refine sv 22 (.tuple #[.agg (c110 0 0 0 0 zF), vFa]) (jx _ 106 110 true rfl b _ rfl (hbo.t1 _)) (mv 20 (.tuple #[.agg (c110 0 0 0 0 zF), vFa]) (mv 23 (.agg (c110 0 0 0 0 zF)) (mv 24 (vFa) ?_)))
  refine nr ?_; intro U h; simp only [z0, z1] at h; subst h
  refine js 9 rfl rfl 110 rfl _ zv110 _ rfl ?_
  intro w6 g4 G eg4 kg4
  have bg4 := jh GG eg4
  have dg1g4 := jf kg1 eg4
  have dg2g4 := jf kg2 eg4
  have dg3g4 := jf kg3 eg4
  replace kg1 := G.has kg1
  replace kg2 := G.has kg2
  replace kg3 := G.has kg3
  replace HE := HE.gro G
  replace GG := GG.trans G
  clear G eg4
  refine jo rfl rfl 110 _ _ rfl g4 0 rfl (.agg (c110 0 0 0 0 zF)) rfl 110 _ kg4 (c110 0 0 0 0 zF) rfl (by kernel_rfl) (nlB rfl) (by kernel_rfl) (c110 0 0 0 0 zF) (by kernel_rfl) ?_
  intro w8 St
  replace kg1 := St.has (by omega) kg1
  replace kg2 := St.has (by omega) kg2
  replace kg3 := St.has (by omega) kg3
  replace HE := HE.stT (by decide) (by decide) (by decide) (by decide) kg4 St
  replace GG := GG.store St bg4
  replace kg4 := St.new
  clear St
  refine mv 10 (vFa) (wpList_nil (ja (wp_seq (wp_region_lit (mv 25 (vFa) (wpList_nil (ja (wp_cond_false rfl (wp_skip (ja (wp_seq (wp_region_lit (mv 30 (pK p 0) (mv 31 (b) ?_))))))))))))))
  refine nr ?_; intro U h; simp only [z0, z1] at h; subst h
  have HC := (show Calls Try.prog 45 #[_, _] _ (HearP _ p id (p :: wp :: blk ro) (txb q) (⟨true, op, mi, mn, pi, pn, oth, k, (q.map (·.l)), c⟩, PT.no)) from uv _ p wp B id true op mi mn pi pn oth ro rc q k c HE b hbo)
  obtain ⟨r0, hr0⟩ : ∃ r0, ((⟨true, op, mi, mn, pi, pn, oth, k, (q.map (·.l)), c⟩, PT.no) : ES × PT) = r0 := ⟨_, rfl⟩
  rw [hr0] at HC
  rw [hr0]
  refine jt 32 rfl rfl _ 45 Try.call45 rfl rfl _ rfl [pK p 0, b] rfl (HC) (fun _ _ ⟨_, _, _, he, _⟩ => ⟨_, he⟩) ?_
  rintro v w9 ⟨v0, mu1, tb1, he, HT, HX, G, F1, F2⟩
  cases he
  replace kg1 := G.has kg1 (HE.not kg1 (by decide) (by decide) (by decide))
  replace kg2 := G.has kg2 (HE.not kg2 (by decide) (by decide) (by decide))
  replace kg3 := G.has kg3 (HE.not kg3 (by decide) (by decide) (by decide))
  replace kg4 := G.has kg4 (HE.not kg4 (by decide) (by decide) (by decide))
  replace F1 : Fresh w _ mu1 := fun g hg => (F1 g hg).imp (fun h => h) fun h => Nat.le_trans GG.size h
  replace F2 : Fresh w _ tb1 := fun g hg => (F2 g hg).imp (fun h => h) fun h => Nat.le_trans GG.size h
  have GH := (GroS.of GG).trans G
  clear GG G HE HC
  have GG := GH
  clear GH
  have hv0 := HT
  obtain ⟨ao0, cap0, oo0, oc0, fs0, hv, _⟩ := hv0
  subst hv
  refine jo rfl rfl 59 _ _ rfl g3 0 rfl (.agg (c59 r0.2.died r0.2.opened ⟨ao0, r0.2.tx.length, cap0⟩ r0.2.came ⟨oo0, fs0.length, oc0⟩)) rfl 59 _ kg3 (c59 r0.2.died r0.2.opened ⟨ao0, r0.2.tx.length, cap0⟩ r0.2.came ⟨oo0, fs0.length, oc0⟩) rfl (by kernel_rfl) (nlB rfl) (by kernel_rfl) (c59 r0.2.died r0.2.opened ⟨ao0, r0.2.tx.length, cap0⟩ r0.2.came ⟨oo0, fs0.length, oc0⟩) (by kernel_rfl) ?_
  intro w11 St
  replace kg1 := St.has (by omega) kg1
  replace kg2 := St.has (by omega) kg2
  replace kg4 := St.has (by omega) kg4
  replace HX := HX.stT (by decide) (by decide) (by decide) (by decide) kg3 St
  replace HT := HT.no46 ((GroS.refl [g3] _).st St (.inr (by simp))) (jK kg3 (by decide) (by decide))
  replace GG := GG.st St (.inl bg3)
  replace kg3 := St.new
  clear St
  refine wpList_nil (ja (wp_ret ?_))
  refine bodyPost_ret (results_cell_row Try.results20 _ _ g3 59 _ (0, 0) _ rfl kg3 Try.underlying59 rfl (by kernel_rfl)) rfl ?_
  exact ⟨_, mu1, tb1, rfl, HT, HX, GG, F1, F2⟩
theorem ZZ (w : World) (p : Nat) (id : Nat → Nat) (x : ES) (mu tb : List Nat) (H : EX w p id x mu tb) (f : Fr) (d : FD) (HF : FrW w f d) (HS : FrS f) (ni nn : Int) (hk : x.k + x.q.length ≤ 100000) (hc : x.c + 1 ≤ 100000) : Calls Try.prog 20 #[pK p 0, .agg (frA f), .agg (c29 ni nn)] w (HearP w p id mu tb (hearS id x (pin f d) ni nn)) := by
  obtain ⟨wp, B, ro, rc, q, h, hq, rfl, rfl⟩ := H
  obtain ⟨up, op, mi, mn, pi, pn, oth, k, xq, c⟩ := x
  simp only at h hq hk hc
  subst hq
  rw [List.length_map] at hk
  cases up
  · exact Zm w p wp B id op mi mn pi pn oth ro rc q k c h f ni nn
  · by_cases h1 : f.kind = 1
    · rw [show hearS id ⟨true, op, mi, mn, pi, pn, oth, k, (q.map (·.l)), c⟩ (pin f d) ni nn = (helloS id ⟨true, op, mi, mn, pi, pn, oth, k, (q.map (·.l)), c⟩ (pin f d) ni nn) from (if_pos rfl).trans (if_pos h1)]
      exact JF w p wp B id op mi mn pi pn oth ro rc q k c h f d HF HS ni nn hk hc h1
    · by_cases h2 : f.kind = 2
      · rw [show hearS id ⟨true, op, mi, mn, pi, pn, oth, k, (q.map (·.l)), c⟩ (pin f d) ni nn = (if withinS ⟨true, op, mi, mn, pi, pn, oth, k, (q.map (·.l)), c⟩ (pin f d) then cameS ⟨true, op, mi, mn, pi, pn, oth, k, (q.map (·.l)), c⟩ (pin f d) else (⟨true, op, mi, mn, pi, pn, oth, k, (q.map (·.l)), c⟩, PT.no)) from (if_pos rfl).trans ((if_neg h1).trans (if_pos h2))]
        exact Zn w p wp B id op mi mn pi pn oth ro rc q k c h f d HF HS ni nn hk hc h2
      · by_cases h3 : f.kind = 3
        · rw [show hearS id ⟨true, op, mi, mn, pi, pn, oth, k, (q.map (·.l)), c⟩ (pin f d) ni nn = (if withinS ⟨true, op, mi, mn, pi, pn, oth, k, (q.map (·.l)), c⟩ (pin f d) then (ackS ⟨true, true, mi, mn, pi, pn, oth, k, (q.map (·.l)), c⟩ (pin f d).n, (⟨false, !op, [], false, []⟩ : PT)) else (⟨true, op, mi, mn, pi, pn, oth, k, (q.map (·.l)), c⟩, PT.no)) from (if_pos rfl).trans ((if_neg h1).trans ((if_neg h2).trans (if_pos h3)))]
          exact Ya w p wp B id op mi mn pi pn oth ro rc q k c h f d HF HS ni nn hk hc h3
        · rw [show hearS id ⟨true, op, mi, mn, pi, pn, oth, k, (q.map (·.l)), c⟩ (pin f d) ni nn = (⟨true, op, mi, mn, pi, pn, oth, k, (q.map (·.l)), c⟩, PT.no) from (if_pos rfl).trans ((if_neg h1).trans ((if_neg h2).trans (if_neg h3)))]
          exact JD w p wp B id op mi mn pi pn oth ro rc q k c h f d HF HS ni nn hk hc ⟨h1, h2, h3⟩
end Go.Proofs.Ytlfanecaglbomaa
