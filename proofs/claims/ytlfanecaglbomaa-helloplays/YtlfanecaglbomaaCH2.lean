/- The program's end: what it tells, its frames, how numbers compare. -/
import Derived.Test.YtlfanecaglbomaaCH1
namespace Go.Proofs.Ytlfanecaglbomaa
set_option maxRecDepth 100000
set_option maxHeartbeats 4000000
open Go.RowKit
def nwE (M : Nat) : PostE := PostE.ex (fun v x => ∃ wp, v = pK wp 0 ∧ M ≤ wp ∧ WX 121 (c121 0 Sl.nil 0) x wp M none 0 []) (fun _ _ _ G ⟨g, h1, h2, h3⟩ => ⟨g, h1, h2, h3.gro G⟩)
theorem yW (M : Nat) (v : Value) : (nwE M).fill v = v := rfl
theorem WX.base0 {t : TypeId} {cs : Array Value} {w : World} {p B B' : Nat} (H : WX t cs w p B none 0 []) (h : B' ≤ B) : WX t cs w p B' none 0 [] := WX.new H.box (Nat.le_trans h H.base) H.ty
section
variable {o : Oper} {A : Act}
theorem jH (x y : Operand) (t2 : TypeId) (ho : o.op = .binOp .eql 29 x y t2) (a b c d : Int) (hx : A.eval x = .agg (c29 a b)) (hy : A.eval y = .agg (c29 c d)) (r : Bool) (hr : (decide (a = c) && decide (b = d)) = r) (w : World) : (execOp A.eval o).run Try.prog w = .ok (.value (.bool r)) w := by
  subst hr
  exact zv .eql 29 x y t2 ho _ _ hx hy (by kernel_rfl) _ (eq27 _ _ _ _ _)
theorem ne27 (x y n m : Int) (w : World) : (binOp .neq 29 (.agg (c29 x n)) (.agg (c29 y m))).run Try.prog w = .ok (.bool (!(decide (x = y) && decide (n = m)))) w := by
  have h : (Op.equal 29 (.agg (c29 x n)) (.agg (c29 y m))).run Try.prog w = .ok (decide (x = y) && decide (n = m)) w := eqF27 _ x y n m w
  simp [binOp, h, go_sem]
theorem zq (x y : Operand) (t2 : TypeId) (ho : o.op = .binOp .neq 29 x y t2) (a b c d : Int) (hx : A.eval x = .agg (c29 a b)) (hy : A.eval y = .agg (c29 c d)) (r : Bool) (hr : (!(decide (a = c) && decide (b = d))) = r) (w : World) : (execOp A.eval o).run Try.prog w = .ok (.value (.bool r)) w := by
  subst hr
  exact zv .neq 29 x y t2 ho _ _ hx hy (by kernel_rfl) _ (ne27 _ _ _ _ _)
theorem ZY {P : Program} (t : TypeId) (x y : Operand) (t2 : TypeId) (ho : o.op = .binOp .neq t x y t2) (hu : P.underlying t = some (.int .i64)) (a b : Int) (hx : A.eval x = iK a) (hy : A.eval y = iK b) (r : Bool) (hr : (!decide (a = b)) = r) (w : World) : (execOp A.eval o).run P w = .ok (.value (.bool r)) w :=
  jP t .i64 x y t2 ho hu a b hx hy r (by subst hr; simp) w
end
def cmpI (a b : Int) : Int := if a < b then -1 else if b < a then 1 else 0
def cmpP (ai an bi bn : Int) : Int := if cmpI ai bi = 0 then cmpI an bn else cmpI ai bi
theorem cmpI_zero {a b : Int} : cmpI a b = 0 ↔ a = b := by unfold cmpI; split <;> (try split) <;> omega
theorem Jr {a b : Int} : cmpI a b < 0 ↔ a < b := by unfold cmpI; split <;> (try split) <;> omega
theorem Jq {a b : Int} : 0 < cmpI a b ↔ b < a := by unfold cmpI; split <;> (try split) <;> omega
theorem YO (ai an bi bn : Int) : decide (cmpP ai an bi bn < 0) = lessN ai an bi bn := by
  unfold cmpP lessN
  by_cases h : ai = bi
  · rw [if_pos (cmpI_zero.2 h), if_pos h]
    exact decide_eq_decide.2 Jr
  · rw [if_neg (fun e => h (cmpI_zero.1 e)), if_neg h]
    exact decide_eq_decide.2 Jr
theorem YN (ai an bi bn : Int) : decide (0 < cmpP ai an bi bn) = lessN bi bn ai an := by
  unfold cmpP lessN
  by_cases h : ai = bi
  · rw [if_pos (cmpI_zero.2 h), if_pos h.symm]
    exact decide_eq_decide.2 Jq
  · rw [if_neg (fun e => h (cmpI_zero.1 e)), if_neg (fun e => h e.symm)]
    exact decide_eq_decide.2 Jq
theorem yr (w : World) (id : Nat → Nat) : Calls Try.prog 7 #[.agg (c23 id)] w fun e w' => ∃ p wp, e = .returned (pK p 0) ∧ Gro w w' ∧ w.heap.size ≤ p ∧ w.heap.size ≤ wp ∧ EW w' p wp w.heap.size id false false 0 0 0 0 zF none 0 [] 0 0 := by
  refine jK Try.func7 rfl Try.ntmps7 [.agg (c23 id)] [.agg (c23 id), undef, undef, undef, undef, undef, undef] rfl ?_
  have GG := Gro.refl w
  refine wp_seq (wp_region_lit ?_)
  refine jB 1 rfl rfl 23 _ rfl _ rfl (c23 id) rfl ?_
  intro w1 g1 G eg1 kg1
  have bg1 := jm GG eg1
  replace GG := GG.trans G
  clear G eg1
  refine mv 2 (.pointer none) (wpList_nil (jc (wp_seq ?_)))
  refine jk (A := ?Ax1) 2 [(0, 3), (1, 4)] [.val (.agg (c23 id)), nwE w.heap.size] follows (by kernel_rfl) rfl ?hAx1 (ja ?o0x1 (ja ?o1x1 jw)) ?restx1
  case hAx1 =>
    intro ptrs
    simp only [full, foldSlots, filledE, postE, List.foldl_cons, List.foldl_nil, List.getD_cons_zero, List.getD_cons_succ, jr, yW, List.set_cons_zero, List.set_cons_succ]
    exact rfl
  case o0x1 => exact fun _ _ hw _ => jb (v := .agg (c23 id)) rfl (jf 23 _ rfl g1 0 16 rfl 23 _ (hw.has kg1) _ Try.underlying23 rfl si23 _)
  case o1x1 => exact fun _ _ hw _ => jT (nwE w.heap.size) rfl _ 34 Try.call34 rfl rfl _ rfl [] rfl ((yT _).mono fun e w' ⟨g, he, hg, hz, hk⟩ => ⟨_, he, hg, g, rfl, Nat.le_trans (GG.drew.trans hw).size hz, hk.base0 (GG.drew.trans hw).size⟩)
  intro ptrs w2 GD hxE
  simp only [List.drop_succ_cons, List.drop_zero]
  replace kg1 := GD.has kg1
  replace GG := GG.drew.trans GD
  obtain ⟨⟨wp, hv, hwp, HW⟩, _⟩ := hxE
  simp only [hv]
  clear hv
  clear GD
  refine sv 5 (.agg (c98 id false false 0 0 0 0 zF (some ⟨wp, 0, none⟩))) (jy 98 _ rfl [(0, .agg (c23 id)), (6, pK wp 0)] rfl _ (by kernel_rfl)) ?_
  refine jB 6 rfl rfl 98 _ rfl _ rfl (c98 id false false 0 0 0 0 zF (some ⟨wp, 0, none⟩)) rfl ?_
  intro w3 g2 G eg2 kg2
  have bg2 := jm GG eg2
  have dg1g2 := je kg1 eg2
  replace kg1 := G.has kg1
  replace HW := HW.gro G
  replace GG := GG.trans G
  clear G eg2
  refine mv 2 (pK g2 0) (wpList_nil (jc (wp_ret ?_)))
  refine bodyPost_ret (results_tmp Try.results7 _ _ _) rfl ?_
  exact ⟨g2, wp, rfl, GG, bg2, hwp, kg2, HW⟩
theorem yi (w : World) (p wp B : Nat) (id : Nat → Nat) (up op : Bool) (mi mn pi pn : Int) (oth : Nat → Nat) (ro : Option Addr) (rc : Nat) (q : List RV) (k c : Nat) (H : EW w p wp B id up op mi mn pi pn oth ro rc q k c) : Calls Try.prog 28 #[pK p 0] w fun e w' => e = .returned (.bool up) ∧ Gro w w' := by
  refine jK Try.func28 rfl Try.ntmps28 [pK p 0] [pK p 0, undef, undef, undef, undef, undef, undef, undef, undef, undef, undef] rfl ?_
  have GG := Gro.refl w
  have kp := H.box
  have HW := H.win
  have hpl := ju kp
  refine wp_seq (wp_region_lit (mv 2 (vFa) (wpList_nil (jc (wp_seq ?_)))))
  refine jt ?_
  intro OPS hY
  have y2 := hY 2 5 rfl
  clear hY
  refine mv 3 (pK p 0) (sv 4 (vTr) (vA 25 _ _ _ rfl _ rfl rfl Try.underlying25 _) (mv 5 (vTr) (ji 6 rfl rfl y2 rfl (pK p 0) (rfl) (ji 7 rfl rfl y2 rfl (pK p 0) (jj _ rfl _ rfl) ?_))))
  refine ji 8 rfl rfl y2 rfl (pK p 16) (jd 98 _ 1 rfl _ _ rfl _) (ji 9 rfl rfl y2 rfl (.bool up) (jh 4 _ rfl p 16 rfl 98 _ kp (na4 _) _ rfl) (mv 10 (.bool up) ?_))
  refine nr ?_; intro U h; simp only [z0, z1] at h; subst h
  refine mv 2 (.bool up) (wpList_nil (jc (wp_ret ?_)))
  refine bodyPost_ret (results_tmp Try.results28 _ _ _) rfl ?_
  exact ⟨rfl, GG⟩
theorem ut (w : World) (p wp B : Nat) (id : Nat → Nat) (up : Bool) (mi mn pi pn : Int) (oth : Nat → Nat) (ro : Option Addr) (rc : Nat) (q : List RV) (k c : Nat) (H : EW w p wp B id up false mi mn pi pn oth ro rc q k c) : Calls Try.prog 24 #[pK p 0] w fun e w' => e = .returned (.tuple #[.agg (c23 zF), vFa]) ∧ Gro w w' := by
  refine jK Try.func24 rfl Try.ntmps24 [pK p 0] [pK p 0, undef, undef, undef, undef, undef, undef, undef, undef, undef, undef, undef, undef, undef, undef, undef, undef, undef] rfl ?_
  have GG := Gro.refl w
  have kp := H.box
  have HW := H.win
  have hpl := ju kp
  refine wp_seq (wp_region_lit ?_)
  refine jq 2 rfl rfl 23 rfl _ zv23 _ rfl ?_
  intro w1 g1 G eg1 kg1
  have bg1 := jm GG eg1
  have dpg1 := je kp eg1
  replace kp := G.has kp
  replace HW := HW.gro G
  replace GG := GG.trans G
  clear G eg1
  refine mv 3 (vFa) (wpList_nil (jc (wp_seq (wp_seq ?_))))
  refine jt ?_
  intro OPS hY
  have y2 := hY 2 6 rfl
  clear hY
  refine mv 4 (pK p 0) (sv 5 (vFa) (zg 25 _ _ _ rfl _ rfl rfl Try.underlying25 _) (mv 6 (vFa) (ji 7 rfl rfl y2 rfl (pK p 0) (rfl) (ji 8 rfl rfl y2 rfl (pK p 0) (jj _ rfl _ rfl) ?_))))
  refine ji 9 rfl rfl y2 rfl (pK p 17) (jd 98 _ 2 rfl _ _ rfl _) (ji 10 rfl rfl y2 rfl (vFa) (jh 4 _ rfl p 17 rfl 98 _ kp (na4 _) _ rfl) ?_)
  refine nr ?_; intro U h; simp only [z0, z1] at h; subst h
  refine ji 11 rfl rfl y2 rfl (vTr) (jE _ _ rfl false rfl) (mv 12 (vTr) (wpList_nil (jc (wp_cond_true rfl (wp_seq (wp_region_lit (sv 13 (.agg (c23 zF)) (jy 23 _ rfl [] rfl _ (by kernel_rfl)) ?_)))))))
  refine jn rfl rfl 23 _ _ rfl g1 0 rfl (.agg (c23 zF)) rfl 23 _ kg1 (c23 zF) rfl (by kernel_rfl) (nlB rfl) (by kernel_rfl) (c23 zF) (by kernel_rfl) ?_
  intro w3 St
  replace kp := St.has (by omega) kp
  replace HW := HW.stT (by decide) (by decide) (by decide) kg1 St
  replace GG := GG.store St bg1
  replace kg1 := St.new
  clear St
  refine mv 3 (vFa) (wpList_nil (jc (wp_ret (jC ?_))))
  refine bodyPost_ret (jF Try.results24 _ _ g1 23 _ (0, 0) _ rfl (vFa) rfl kg1 Try.underlying23 rfl (by kernel_rfl)) rfl ?_
  exact ⟨rfl, GG⟩
theorem yS (w : World) (p wp B : Nat) (id : Nat → Nat) (up : Bool) (mi mn pi pn : Int) (oth : Nat → Nat) (ro : Option Addr) (rc : Nat) (q : List RV) (k c : Nat) (H : EW w p wp B id up true mi mn pi pn oth ro rc q k c) : Calls Try.prog 24 #[pK p 0] w fun e w' => e = .returned (.tuple #[.agg (c23 oth), vTr]) ∧ Gro w w' := by
  refine jK Try.func24 rfl Try.ntmps24 [pK p 0] [pK p 0, undef, undef, undef, undef, undef, undef, undef, undef, undef, undef, undef, undef, undef, undef, undef, undef, undef] rfl ?_
  have GG := Gro.refl w
  have kp := H.box
  have HW := H.win
  have hpl := ju kp
  refine wp_seq (wp_region_lit ?_)
  refine jq 2 rfl rfl 23 rfl _ zv23 _ rfl ?_
  intro w1 g1 G eg1 kg1
  have bg1 := jm GG eg1
  have dpg1 := je kp eg1
  replace kp := G.has kp
  replace HW := HW.gro G
  replace GG := GG.trans G
  clear G eg1
  refine mv 3 (vFa) (wpList_nil (jc (wp_seq (wp_seq ?_))))
  refine jt ?_
  intro OPS hY
  have y2 := hY 2 6 rfl
  clear hY
  refine mv 4 (pK p 0) (sv 5 (vFa) (zg 25 _ _ _ rfl _ rfl rfl Try.underlying25 _) (mv 6 (vFa) (ji 7 rfl rfl y2 rfl (pK p 0) (rfl) (ji 8 rfl rfl y2 rfl (pK p 0) (jj _ rfl _ rfl) ?_))))
  refine ji 9 rfl rfl y2 rfl (pK p 17) (jd 98 _ 2 rfl _ _ rfl _) (ji 10 rfl rfl y2 rfl (vTr) (jh 4 _ rfl p 17 rfl 98 _ kp (na4 _) _ rfl) ?_)
  refine nr ?_; intro U h; simp only [z0, z1] at h; subst h
  refine ji 11 rfl rfl y2 rfl (vFa) (jE _ _ rfl true rfl) (mv 12 (vFa) (wpList_nil (jc (wp_cond_false rfl (wp_skip (jc (wp_seq (wp_region_lit (mv 14 (pK p 0) (sv 15 (pK p 0) (jj _ rfl _ rfl) (sv 16 (pK p 22) (jd 98 _ 5 rfl _ _ rfl _) ?_)))))))))))
  refine sv 17 (.agg (c23 oth)) (jf 23 _ rfl p 22 16 rfl 98 _ kp _ Try.underlying23 rfl si23 _) ?_
  refine jn rfl rfl 23 _ _ rfl g1 0 rfl (.agg (c23 oth)) rfl 23 _ kg1 (c23 oth) rfl (by kernel_rfl) (nlB rfl) (by kernel_rfl) (c23 oth) (by kernel_rfl) ?_
  intro w3 St
  replace kp := St.has (by omega) kp
  replace HW := HW.stT (by decide) (by decide) (by decide) kg1 St
  replace GG := GG.store St bg1
  replace kg1 := St.new
  clear St
  refine mv 3 (vTr) (wpList_nil (jc (wp_ret ?_)))
  refine bodyPost_ret (jF Try.results24 _ _ g1 23 _ (0, 0) _ rfl (vTr) rfl kg1 Try.underlying23 rfl (by kernel_rfl)) rfl ?_
  exact ⟨rfl, GG⟩
theorem Yh (w : World) (p wp B : Nat) (id : Nat → Nat) (up op : Bool) (mi mn pi pn : Int) (oth : Nat → Nat) (ro : Option Addr) (rc : Nat) (q : List RV) (k c : Nat) (H : EW w p wp B id up op mi mn pi pn oth ro rc q k c) : Calls Try.prog 23 #[pK p 0] w fun e w' => e = .returned (.tuple #[.agg (c29 mi mn), .agg (c29 pi pn)]) ∧ Gro w w' := by
  refine jK Try.func23 rfl Try.ntmps23 [pK p 0] [pK p 0, undef, undef, undef, undef, undef, undef, undef, undef, undef, undef, undef, undef, undef, undef, undef] rfl ?_
  have GG := Gro.refl w
  have kp := H.box
  have HW := H.win
  have hpl := ju kp
  refine wp_seq (wp_region_lit ?_)
  refine jq 2 rfl rfl 29 rfl _ zv29 _ rfl ?_
  intro w1 g1 G eg1 kg1
  have bg1 := jm GG eg1
  have dpg1 := je kp eg1
  replace kp := G.has kp
  replace HW := HW.gro G
  replace GG := GG.trans G
  clear G eg1
  refine jq 3 rfl rfl 29 rfl _ zv29 _ rfl ?_
  intro w2 g2 G eg2 kg2
  have bg2 := jm GG eg2
  have dpg2 := je kp eg2
  have dg1g2 := je kg1 eg2
  replace kp := G.has kp
  replace kg1 := G.has kg1
  replace HW := HW.gro G
  replace GG := GG.trans G
  clear G eg2
  refine wpList_nil (jc (wp_seq (wp_seq (wp_region_lit (mv 4 (pK p 0) (sv 5 (vFa) (zg 25 _ _ _ rfl _ rfl rfl Try.underlying25 _) (wpList_nil (jc (wp_cond_false rfl (wp_skip (jc (wp_seq ?_))))))))))))
  refine jR (A := ?Ap1) (fun L x => Gro w x ∧ x.heap[p]? = some (.cells (c98 id up op mi mn pi pn oth (some ⟨wp, 0, none⟩)) 98 (0, 0)) ∧ x.heap[g1]? = some (.cells (cond (L 8) (c29 mi mn) (c29 0 0)) 29 (0, 0)) ∧ x.heap[g2]? = some (.cells (c29 0 0) 29 (0, 0)) ∧ WX 121 (c121 ((k + q.length : Nat) : Int) ⟨ro, q.length, rc⟩ ((c : Nat) : Int)) x wp B ro rc q) 9 [(0, 8), (1, 9), (2, 10), (3, 11), (4, 12), (5, 13), (6, 14), (7, 15)] [.val (pK p 0), .val (pK p 0), .val (pK p 18), .val (.agg (c29 mi mn)), .val (pK p 0), .val (pK p 0), .val (pK p 20), .val (.agg (c29 pi pn)), .val undef] [] [] follows (by kernel_rfl) rfl (by kernel_rfl) (by decide) ⟨GG.drew, (Gro.refl _).drew.has kp, (Gro.refl _).drew.has kg1, (Gro.refl _).drew.has kg2, HW.gro (Gro.refl _).drew⟩ ?hAp1 (js (fun _ _ _ h _ G => ⟨h.1.trans G, G.has h.2.1, G.has h.2.2.1, G.has h.2.2.2.1, h.2.2.2.2.gro G⟩) ?o0p1 (js (fun _ _ _ h _ G => ⟨h.1.trans G, G.has h.2.1, G.has h.2.2.1, G.has h.2.2.2.1, h.2.2.2.2.gro G⟩) ?o1p1 (js (fun _ _ _ h _ G => ⟨h.1.trans G, G.has h.2.1, G.has h.2.2.1, G.has h.2.2.2.1, h.2.2.2.2.gro G⟩) ?o2p1 (js (fun _ _ _ h _ G => ⟨h.1.trans G, G.has h.2.1, G.has h.2.2.1, G.has h.2.2.2.1, h.2.2.2.2.gro G⟩) ?o3p1 (js (fun _ _ _ h _ G => ⟨h.1.trans G, G.has h.2.1, G.has h.2.2.1, G.has h.2.2.2.1, h.2.2.2.2.gro G⟩) ?o4p1 (js (fun _ _ _ h _ G => ⟨h.1.trans G, G.has h.2.1, G.has h.2.2.1, G.has h.2.2.2.1, h.2.2.2.2.gro G⟩) ?o5p1 (js (fun _ _ _ h _ G => ⟨h.1.trans G, G.has h.2.1, G.has h.2.2.1, G.has h.2.2.2.1, h.2.2.2.2.gro G⟩) ?o6p1 (js (fun _ _ _ h _ G => ⟨h.1.trans G, G.has h.2.1, G.has h.2.2.1, G.has h.2.2.2.1, h.2.2.2.2.gro G⟩) ?o7p1 (jW ?o8p1 zp))))))))) ?restp1
  case hAp1 =>
    intro ptrs
    simp only [full, foldSlots, filledE, postE, List.foldl_cons, List.foldl_nil, List.getD_cons_zero, List.getD_cons_succ, jr,  List.set_cons_zero, List.set_cons_succ]
    exact rfl
  case o0p1 => exact fun _ _ _ _ _ _ _ _ => jg (v := pK p 0) _ rfl rfl rfl
  case o1p1 => exact fun _ _ x hx _ _ _ _ => jb (v := pK p 0) rfl (jj _ rfl _ rfl)
  case o2p1 => exact fun _ _ x hx _ _ _ _ => jb (v := pK p 18) rfl (jd 98 _ 3 rfl _ _ rfl _)
  case o3p1 => exact fun _ _ x hx _ _ _ _ => jb (v := .agg (c29 mi mn)) rfl (jf 29 _ rfl p 18 2 rfl 98 _ hx.2.1 _ Try.underlying29 rfl si29 _)
  case o4p1 => exact fun _ _ _ _ _ _ _ _ => jg (v := pK p 0) _ rfl rfl rfl
  case o5p1 => exact fun _ _ x hx _ _ _ _ => jb (v := pK p 0) rfl (jj _ rfl _ rfl)
  case o6p1 => exact fun _ _ x hx _ _ _ _ => jb (v := pK p 20) rfl (jd 98 _ 4 rfl _ _ rfl _)
  case o7p1 => exact fun _ _ x hx _ _ _ _ => jb (v := .agg (c29 pi pn)) rfl (jf 29 _ rfl p 20 2 rfl 98 _ hx.2.1 _ Try.underlying29 rfl si29 _)
  case o8p1 =>
    intro L ptrs x hx hL hed hno _
    have hk := hx.2.2.1
    rw [hL] at hk
    replace hk : x.heap[g1]? = some (.cells (c29 0 0) 29 (0, 0)) := hk
    refine jL _ rfl 29 _ _ rfl g1 0 rfl (.agg (c29 mi mn)) rfl 29 _ hk (c29 mi mn) rfl (by kernel_rfl) (nlB rfl) (by kernel_rfl) (c29 mi mn) (by kernel_rfl) ?_
    intro y St
    exact ⟨⟨⟨hx.1.store St bg1, St.has (by omega) hx.2.1, St.new, St.has (by omega) hx.2.2.2.1, hx.2.2.2.2.stT (by decide) (by decide) (by decide) hk St⟩, StM.vals [0, 1, 2, 3, 4, 5, 6, 7] (by kernel_rfl) ⟨⟨_, rfl⟩, ⟨_, rfl⟩, ⟨_, rfl⟩, ⟨_, rfl⟩, ⟨_, rfl⟩, ⟨_, rfl⟩, ⟨_, rfl⟩, ⟨_, rfl⟩, trivial⟩⟩, rfl⟩
  intro ptrs w3 HJ _
  simp only [List.drop_succ_cons, List.drop_zero]
  clear GG kp kg1 kg2 HW
  obtain ⟨GG, kp, kg1, kg2, HW⟩ := HJ
  replace kg1 : w3.heap[g1]? = some (.cells (c29 mi mn) 29 (0, 0)) := kg1
  refine jn rfl rfl 29 _ _ rfl g2 0 rfl (.agg (c29 pi pn)) rfl 29 _ kg2 (c29 pi pn) rfl (by kernel_rfl) (nlB rfl) (by kernel_rfl) (c29 pi pn) (by kernel_rfl) ?_
  intro w5 St
  replace kp := St.has (by omega) kp
  replace kg1 := St.has (by omega) kg1
  replace HW := HW.stT (by decide) (by decide) (by decide) kg2 St
  replace GG := GG.store St bg2
  replace kg2 := St.new
  clear St
  refine wpList_nil (jc (wp_ret ?_))
  refine bodyPost_ret (uq Try.results23 _ _ g1 g2 29 29 _ _ _ _ rfl rfl kg1 kg2 Try.underlying29 rfl (by kernel_rfl) Try.underlying29 rfl (by kernel_rfl)) rfl ?_
  exact ⟨rfl, GG⟩
theorem JK (w : World) (p wp B : Nat) (id : Nat → Nat) (up : Bool) (mi mn pi pn : Int) (oth : Nat → Nat) (ro : Option Addr) (rc : Nat) (q : List RV) (k c : Nat) (H : EW w p wp B id up true mi mn pi pn oth ro rc q k c) : Calls Try.prog 56 #[pK p 0] w fun e w' => e = .returned (vFa) ∧ GroS [p] w w' ∧ EW w' p wp B id up true mi mn pi pn oth ro rc q k c := by
  refine jK Try.func56 rfl Try.ntmps56 [pK p 0] [pK p 0, undef, undef, undef, undef, undef, undef, undef, undef, undef, undef, undef, undef] rfl ?_
  have GG := GroS.refl [p] w
  have kp := H.box
  have HW := H.win
  have hpl := ju kp
  refine wp_seq (wp_region_lit (mv 2 (vFa) (wpList_nil (jc (wp_seq (wp_region_lit (mv 4 (pK p 0) (sv 5 (pK p 0) (jj _ rfl _ rfl) (sv 6 (pK p 17) (jd 98 _ 2 rfl _ _ rfl _) (sv 7 (vTr) (jh 4 _ rfl p 17 rfl 98 _ kp (na4 _) _ rfl) ?_))))))))))
  refine mv 3 (vTr) (wpList_nil (jc (wp_seq (wp_region_lit (mv 8 (pK p 0) (sv 9 (pK p 0) (jj _ rfl _ rfl) (sv 10 (pK p 17) (jd 98 _ 2 rfl _ _ rfl _) ?_)))))))
  refine nr ?_; intro U h; simp only [z0, z1] at h; subst h
  refine jn rfl rfl 4 _ _ rfl p 17 rfl (vTr) rfl 98 _ kp #[vTr] rfl (by kernel_rfl) (nlB rfl) (by kernel_rfl) (c98 id up true mi mn pi pn oth (some ⟨wp, 0, none⟩)) (by kernel_rfl) ?_
  intro w2 St
  replace HW := HW.stT (by decide) (by decide) (by decide) kp St
  replace GG := GG.st St (.inr (by simp))
  replace kp := St.new
  clear St
  refine wpList_nil (jc (wp_seq (wp_region_lit (mv 11 (vTr) (sv 12 (vFa) (jE _ _ rfl true rfl) (mv 2 (vFa) (wpList_nil (jc (wp_ret ?_)))))))))
  refine bodyPost_ret (results_tmp Try.results56 _ _ _) rfl ?_
  exact ⟨rfl, GG, kp, HW⟩
theorem Jg (w : World) (p wp B : Nat) (id : Nat → Nat) (up : Bool) (mi mn pi pn : Int) (oth : Nat → Nat) (ro : Option Addr) (rc : Nat) (q : List RV) (k c : Nat) (H : EW w p wp B id up false mi mn pi pn oth ro rc q k c) : Calls Try.prog 56 #[pK p 0] w fun e w' => e = .returned (vTr) ∧ GroS [p] w w' ∧ EW w' p wp B id up true mi mn pi pn oth ro rc q k c := by
  refine jK Try.func56 rfl Try.ntmps56 [pK p 0] [pK p 0, undef, undef, undef, undef, undef, undef, undef, undef, undef, undef, undef, undef] rfl ?_
  have GG := GroS.refl [p] w
  have kp := H.box
  have HW := H.win
  have hpl := ju kp
  refine wp_seq (wp_region_lit (mv 2 (vFa) (wpList_nil (jc (wp_seq (wp_region_lit (mv 4 (pK p 0) (sv 5 (pK p 0) (jj _ rfl _ rfl) (sv 6 (pK p 17) (jd 98 _ 2 rfl _ _ rfl _) (sv 7 (vFa) (jh 4 _ rfl p 17 rfl 98 _ kp (na4 _) _ rfl) ?_))))))))))
  refine mv 3 (vFa) (wpList_nil (jc (wp_seq (wp_region_lit (mv 8 (pK p 0) (sv 9 (pK p 0) (jj _ rfl _ rfl) (sv 10 (pK p 17) (jd 98 _ 2 rfl _ _ rfl _) ?_)))))))
  refine nr ?_; intro U h; simp only [z0, z1] at h; subst h
  refine jn rfl rfl 4 _ _ rfl p 17 rfl (vTr) rfl 98 _ kp #[vTr] rfl (by kernel_rfl) (nlB rfl) (by kernel_rfl) (c98 id up true mi mn pi pn oth (some ⟨wp, 0, none⟩)) (by kernel_rfl) ?_
  intro w2 St
  replace HW := HW.stT (by decide) (by decide) (by decide) kp St
  replace GG := GG.st St (.inr (by simp))
  replace kp := St.new
  clear St
  refine wpList_nil (jc (wp_seq (wp_region_lit (mv 11 (vFa) (sv 12 (vTr) (jE _ _ rfl false rfl) (mv 2 (vTr) (wpList_nil (jc (wp_ret ?_)))))))))
  refine bodyPost_ret (results_tmp Try.results56 _ _ _) rfl ?_
  exact ⟨rfl, GG, kp, HW⟩
theorem zL (w : World) (p wp B : Nat) (id : Nat → Nat) (up op : Bool) (mi mn pi pn : Int) (oth : Nat → Nat) (ro : Option Addr) (rc : Nat) (q : List RV) (k c : Nat) (H : EW w p wp B id up op mi mn pi pn oth ro rc q k c) : Calls Try.prog 56 #[pK p 0] w fun e w' => e = .returned (.bool (!op)) ∧ GroS [p] w w' ∧ EW w' p wp B id up true mi mn pi pn oth ro rc q k c := by
  cases op
  · exact Jg w p wp B id up mi mn pi pn oth ro rc q k c H
  · exact JK w p wp B id up mi mn pi pn oth ro rc q k c H
theorem JZ (w : World) (p wp B : Nat) (id : Nat → Nat) (up op : Bool) (mi mn pi pn : Int) (oth : Nat → Nat) (ro : Option Addr) (rc : Nat) (q : List RV) (k c : Nat) (H : EW w p wp B id up op mi mn pi pn oth ro rc q k c) (fi fn ti tn : Int) (h : (decide (fi = pi) && decide (fn = pn)) = false) : Calls Try.prog 58 #[pK p 0, .agg (c29 fi fn), .agg (c29 ti tn)] w fun e w' => e = .returned (vFa) ∧ Gro w w' := by
  refine jp Try.func58 rfl Try.ntmps58 [pK p 0, .agg (c29 fi fn), .agg (c29 ti tn)] ?_
  intro U h; simp only [List.length_cons, List.length_nil, List.cons_append, List.nil_append, Nat.reduceAdd, Nat.reduceSub, List.reduceReplicate] at h; subst h
  have GG := Gro.refl w
  have kp := H.box
  have HW := H.win
  have hpl := ju kp
  refine wp_seq (wp_region_lit ?_)
  refine jB 4 rfl rfl 29 _ rfl _ rfl (c29 fi fn) rfl ?_
  intro w1 g1 G eg1 kg1
  have bg1 := jm GG eg1
  have dpg1 := je kp eg1
  replace kp := G.has kp
  replace HW := HW.gro G
  replace GG := GG.trans G
  clear G eg1
  refine jB 5 rfl rfl 29 _ rfl _ rfl (c29 ti tn) rfl ?_
  intro w2 g2 G eg2 kg2
  have bg2 := jm GG eg2
  have dpg2 := je kp eg2
  have dg1g2 := je kg1 eg2
  replace kp := G.has kp
  replace kg1 := G.has kg1
  replace HW := HW.gro G
  replace GG := GG.trans G
  clear G eg2
  refine mv 6 (vFa) (wpList_nil (jc (wp_seq ?_)))
  refine jk (A := ?Ax2) 12 [(0, 7), (1, 8), (2, 9), (3, 10), (4, 11), (5, 12), (6, 13), (7, 14), (8, 15), (9, 16), (10, 17), (11, 18)] [.val (.agg (c29 fi fn)), .val (pK p 0), .val (pK p 0), .val (pK p 20), .val (.agg (c29 pi pn)), .val (vFa), .val (vFa), .val undef, .val undef, .val undef, .val undef, .val undef] follows (by kernel_rfl) rfl ?hAx2 (ja ?o0x2 (ja ?o1x2 (ja ?o2x2 (ja ?o3x2 (ja ?o4x2 (ja ?o5x2 (ja ?o6x2 (ja ?o7x2 (ja ?o8x2 (ja ?o9x2 (ja ?o10x2 (ja ?o11x2 jw)))))))))))) ?restx2
  case hAx2 =>
    intro ptrs
    simp only [full, foldSlots, filledE, postE, List.foldl_cons, List.foldl_nil, List.getD_cons_zero, List.getD_cons_succ, jr, List.set_cons_zero, List.set_cons_succ]
    exact rfl
  case o0x2 => exact fun _ _ hw _ => jb (v := .agg (c29 fi fn)) rfl (jf 29 _ rfl g1 0 2 rfl 29 _ (hw.has kg1) _ Try.underlying29 rfl si29 _)
  case o1x2 => exact fun _ _ _ _ => jg (v := pK p 0) _ rfl rfl rfl
  case o2x2 => exact fun _ _ hw _ => jb (v := pK p 0) rfl (jj _ rfl _ rfl)
  case o3x2 => exact fun _ _ hw _ => jb (v := pK p 20) rfl (jd 98 _ 4 rfl _ _ rfl _)
  case o4x2 => exact fun _ _ hw _ => jb (v := .agg (c29 pi pn)) rfl (jf 29 _ rfl p 20 2 rfl 98 _ (hw.has kp) _ Try.underlying29 rfl si29 _)
  case o5x2 => exact fun _ _ hw _ => jb (v := vFa) rfl (jH _ _ _ rfl fi fn pi pn rfl rfl false (h) _)
  case o6x2 => exact fun _ _ _ _ => jg (v := vFa) _ rfl rfl rfl
  case o7x2 => exact fun _ _ _ _ => jO rfl
  case o8x2 => exact fun _ _ _ _ => jO rfl
  case o9x2 => exact fun _ _ _ _ => jO rfl
  case o10x2 => exact fun _ _ _ _ => jO rfl
  case o11x2 => exact fun _ _ _ _ => jO rfl
  intro ptrs w3 GD hxE
  simp only [List.drop_succ_cons, List.drop_zero]
  replace kp := GD.has kp
  replace kg1 := GD.has kg1
  replace kg2 := GD.has kg2
  replace HW := HW.gro ((Gro.refl _).drew.trans GD)
  replace GG := GG.drew.trans GD
  clear GD
  refine zf 19 rfl rfl (mv 20 (vFa) (mv 6 (vFa) (wpList_nil (jc (wp_ret ?_)))))
  refine bodyPost_ret (results_tmp Try.results58 _ _ _) rfl ?_
  exact ⟨rfl, GG⟩
theorem uG (w : World) (p wp B : Nat) (id : Nat → Nat) (up op : Bool) (mi mn pi pn : Int) (oth : Nat → Nat) (ro : Option Addr) (rc : Nat) (q : List RV) (k c : Nat) (H : EW w p wp B id up op mi mn pi pn oth ro rc q k c) (fi fn ti tn : Int) (h : (decide (fi = pi) && decide (fn = pn)) = true) (h2 : (decide (ti = mi) && decide (tn = mn)) = true) : Calls Try.prog 58 #[pK p 0, .agg (c29 fi fn), .agg (c29 ti tn)] w fun e w' => e = .returned (vTr) ∧ Gro w w' := by
  refine jp Try.func58 rfl Try.ntmps58 [pK p 0, .agg (c29 fi fn), .agg (c29 ti tn)] ?_
  intro U h; simp only [List.length_cons, List.length_nil, List.cons_append, List.nil_append, Nat.reduceAdd, Nat.reduceSub, List.reduceReplicate] at h; subst h
  have GG := Gro.refl w
  have kp := H.box
  have HW := H.win
  have hpl := ju kp
  refine wp_seq (wp_region_lit ?_)
  refine jB 4 rfl rfl 29 _ rfl _ rfl (c29 fi fn) rfl ?_
  intro w1 g1 G eg1 kg1
  have bg1 := jm GG eg1
  have dpg1 := je kp eg1
  replace kp := G.has kp
  replace HW := HW.gro G
  replace GG := GG.trans G
  clear G eg1
  refine jB 5 rfl rfl 29 _ rfl _ rfl (c29 ti tn) rfl ?_
  intro w2 g2 G eg2 kg2
  have bg2 := jm GG eg2
  have dpg2 := je kp eg2
  have dg1g2 := je kg1 eg2
  replace kp := G.has kp
  replace kg1 := G.has kg1
  replace HW := HW.gro G
  replace GG := GG.trans G
  clear G eg2
  refine mv 6 (vFa) (wpList_nil (jc (wp_seq ?_)))
  refine jk (A := ?Ax3) 12 [(0, 7), (1, 8), (2, 9), (3, 10), (4, 11), (5, 12), (6, 13), (7, 14), (8, 15), (9, 16), (10, 17), (11, 18)] [.val (.agg (c29 fi fn)), .val (pK p 0), .val (pK p 0), .val (pK p 20), .val (.agg (c29 pi pn)), .val (vTr), .val (vTr), .val (.agg (c29 ti tn)), .val (pK p 0), .val (pK p 0), .val (pK p 18), .val (.agg (c29 mi mn))] follows (by kernel_rfl) rfl ?hAx3 (ja ?o0x3 (ja ?o1x3 (ja ?o2x3 (ja ?o3x3 (ja ?o4x3 (ja ?o5x3 (ja ?o6x3 (ja ?o7x3 (ja ?o8x3 (ja ?o9x3 (ja ?o10x3 (ja ?o11x3 jw)))))))))))) ?restx3
  case hAx3 =>
    intro ptrs
    simp only [full, foldSlots, filledE, postE, List.foldl_cons, List.foldl_nil, List.getD_cons_zero, List.getD_cons_succ, jr, List.set_cons_zero, List.set_cons_succ]
    exact rfl
  case o0x3 => exact fun _ _ hw _ => jb (v := .agg (c29 fi fn)) rfl (jf 29 _ rfl g1 0 2 rfl 29 _ (hw.has kg1) _ Try.underlying29 rfl si29 _)
  case o1x3 => exact fun _ _ _ _ => jg (v := pK p 0) _ rfl rfl rfl
  case o2x3 => exact fun _ _ hw _ => jb (v := pK p 0) rfl (jj _ rfl _ rfl)
  case o3x3 => exact fun _ _ hw _ => jb (v := pK p 20) rfl (jd 98 _ 4 rfl _ _ rfl _)
  case o4x3 => exact fun _ _ hw _ => jb (v := .agg (c29 pi pn)) rfl (jf 29 _ rfl p 20 2 rfl 98 _ (hw.has kp) _ Try.underlying29 rfl si29 _)
  case o5x3 => exact fun _ _ hw _ => jb (v := vTr) rfl (jH _ _ _ rfl fi fn pi pn rfl rfl true (h) _)
  case o6x3 => exact fun _ _ _ _ => jg (v := vTr) _ rfl rfl rfl
  case o7x3 => exact fun _ _ hw _ => jb (v := .agg (c29 ti tn)) rfl (jf 29 _ rfl g2 0 2 rfl 29 _ (hw.has kg2) _ Try.underlying29 rfl si29 _)
  case o8x3 => exact fun _ _ _ _ => jg (v := pK p 0) _ rfl rfl rfl
  case o9x3 => exact fun _ _ hw _ => jb (v := pK p 0) rfl (jj _ rfl _ rfl)
  case o10x3 => exact fun _ _ hw _ => jb (v := pK p 18) rfl (jd 98 _ 3 rfl _ _ rfl _)
  case o11x3 => exact fun _ _ hw _ => jb (v := .agg (c29 mi mn)) rfl (jf 29 _ rfl p 18 2 rfl 98 _ (hw.has kp) _ Try.underlying29 rfl si29 _)
  intro ptrs w3 GD hxE
  simp only [List.drop_succ_cons, List.drop_zero]
  replace kp := GD.has kp
  replace kg1 := GD.has kg1
  replace kg2 := GD.has kg2
  replace HW := HW.gro ((Gro.refl _).drew.trans GD)
  replace GG := GG.drew.trans GD
  clear GD
  refine jI 19 rfl rfl (vTr) (jH _ _ _ rfl ti tn mi mn rfl rfl true (h2) _) (mv 20 (vTr) (mv 6 (vTr) (wpList_nil (jc (wp_ret ?_)))))
  refine bodyPost_ret (results_tmp Try.results58 _ _ _) rfl ?_
  exact ⟨rfl, GG⟩
theorem vT (w : World) (p wp B : Nat) (id : Nat → Nat) (up op : Bool) (mi mn pi pn : Int) (oth : Nat → Nat) (ro : Option Addr) (rc : Nat) (q : List RV) (k c : Nat) (H : EW w p wp B id up op mi mn pi pn oth ro rc q k c) (fi fn ti tn : Int) (h : (decide (fi = pi) && decide (fn = pn)) = true) (h2 : (decide (ti = mi) && decide (tn = mn)) = false) : Calls Try.prog 58 #[pK p 0, .agg (c29 fi fn), .agg (c29 ti tn)] w fun e w' => e = .returned (vFa) ∧ Gro w w' := by
  refine jp Try.func58 rfl Try.ntmps58 [pK p 0, .agg (c29 fi fn), .agg (c29 ti tn)] ?_
  intro U h; simp only [List.length_cons, List.length_nil, List.cons_append, List.nil_append, Nat.reduceAdd, Nat.reduceSub, List.reduceReplicate] at h; subst h
  have GG := Gro.refl w
  have kp := H.box
  have HW := H.win
  have hpl := ju kp
  refine wp_seq (wp_region_lit ?_)
  refine jB 4 rfl rfl 29 _ rfl _ rfl (c29 fi fn) rfl ?_
  intro w1 g1 G eg1 kg1
  have bg1 := jm GG eg1
  have dpg1 := je kp eg1
  replace kp := G.has kp
  replace HW := HW.gro G
  replace GG := GG.trans G
  clear G eg1
  refine jB 5 rfl rfl 29 _ rfl _ rfl (c29 ti tn) rfl ?_
  intro w2 g2 G eg2 kg2
  have bg2 := jm GG eg2
  have dpg2 := je kp eg2
  have dg1g2 := je kg1 eg2
  replace kp := G.has kp
  replace kg1 := G.has kg1
  replace HW := HW.gro G
  replace GG := GG.trans G
  clear G eg2
  refine mv 6 (vFa) (wpList_nil (jc (wp_seq ?_)))
  refine jk (A := ?Ax4) 12 [(0, 7), (1, 8), (2, 9), (3, 10), (4, 11), (5, 12), (6, 13), (7, 14), (8, 15), (9, 16), (10, 17), (11, 18)] [.val (.agg (c29 fi fn)), .val (pK p 0), .val (pK p 0), .val (pK p 20), .val (.agg (c29 pi pn)), .val (vTr), .val (vTr), .val (.agg (c29 ti tn)), .val (pK p 0), .val (pK p 0), .val (pK p 18), .val (.agg (c29 mi mn))] follows (by kernel_rfl) rfl ?hAx4 (ja ?o0x4 (ja ?o1x4 (ja ?o2x4 (ja ?o3x4 (ja ?o4x4 (ja ?o5x4 (ja ?o6x4 (ja ?o7x4 (ja ?o8x4 (ja ?o9x4 (ja ?o10x4 (ja ?o11x4 jw)))))))))))) ?restx4
  case hAx4 =>
    intro ptrs
    simp only [full, foldSlots, filledE, postE, List.foldl_cons, List.foldl_nil, List.getD_cons_zero, List.getD_cons_succ, jr, List.set_cons_zero, List.set_cons_succ]
    exact rfl
  case o0x4 => exact fun _ _ hw _ => jb (v := .agg (c29 fi fn)) rfl (jf 29 _ rfl g1 0 2 rfl 29 _ (hw.has kg1) _ Try.underlying29 rfl si29 _)
  case o1x4 => exact fun _ _ _ _ => jg (v := pK p 0) _ rfl rfl rfl
  case o2x4 => exact fun _ _ hw _ => jb (v := pK p 0) rfl (jj _ rfl _ rfl)
  case o3x4 => exact fun _ _ hw _ => jb (v := pK p 20) rfl (jd 98 _ 4 rfl _ _ rfl _)
  case o4x4 => exact fun _ _ hw _ => jb (v := .agg (c29 pi pn)) rfl (jf 29 _ rfl p 20 2 rfl 98 _ (hw.has kp) _ Try.underlying29 rfl si29 _)
  case o5x4 => exact fun _ _ hw _ => jb (v := vTr) rfl (jH _ _ _ rfl fi fn pi pn rfl rfl true (h) _)
  case o6x4 => exact fun _ _ _ _ => jg (v := vTr) _ rfl rfl rfl
  case o7x4 => exact fun _ _ hw _ => jb (v := .agg (c29 ti tn)) rfl (jf 29 _ rfl g2 0 2 rfl 29 _ (hw.has kg2) _ Try.underlying29 rfl si29 _)
  case o8x4 => exact fun _ _ _ _ => jg (v := pK p 0) _ rfl rfl rfl
  case o9x4 => exact fun _ _ hw _ => jb (v := pK p 0) rfl (jj _ rfl _ rfl)
  case o10x4 => exact fun _ _ hw _ => jb (v := pK p 18) rfl (jd 98 _ 3 rfl _ _ rfl _)
  case o11x4 => exact fun _ _ hw _ => jb (v := .agg (c29 mi mn)) rfl (jf 29 _ rfl p 18 2 rfl 98 _ (hw.has kp) _ Try.underlying29 rfl si29 _)
  intro ptrs w3 GD hxE
  simp only [List.drop_succ_cons, List.drop_zero]
  replace kp := GD.has kp
  replace kg1 := GD.has kg1
  replace kg2 := GD.has kg2
  replace HW := HW.gro ((Gro.refl _).drew.trans GD)
  replace GG := GG.drew.trans GD
  clear GD
  refine jI 19 rfl rfl (vFa) (jH _ _ _ rfl ti tn mi mn rfl rfl false (h2) _) (mv 20 (vFa) (mv 6 (vFa) (wpList_nil (jc (wp_ret ?_)))))
  refine bodyPost_ret (results_tmp Try.results58 _ _ _) rfl ?_
  exact ⟨rfl, GG⟩
theorem zI (w : World) (p wp B : Nat) (id : Nat → Nat) (up op : Bool) (mi mn pi pn : Int) (oth : Nat → Nat) (ro : Option Addr) (rc : Nat) (q : List RV) (k c : Nat) (H : EW w p wp B id up op mi mn pi pn oth ro rc q k c) (fi fn ti tn : Int) : Calls Try.prog 58 #[pK p 0, .agg (c29 fi fn), .agg (c29 ti tn)] w fun e w' => e = .returned (.bool (decide ((fi = pi ∧ fn = pn) ∧ ti = mi ∧ tn = mn))) ∧ Gro w w' := by
  have e : decide ((fi = pi ∧ fn = pn) ∧ ti = mi ∧ tn = mn) = ((decide (fi = pi) && decide (fn = pn)) && (decide (ti = mi) && decide (tn = mn))) := by simp [Bool.decide_and]
  rw [e]
  cases h : (decide (fi = pi) && decide (fn = pn))
  · exact JZ w p wp B id up op mi mn pi pn oth ro rc q k c H fi fn ti tn h
  · cases h2 : (decide (ti = mi) && decide (tn = mn))
    · exact vT w p wp B id up op mi mn pi pn oth ro rc q k c H fi fn ti tn h h2
    · exact uG w p wp B id up op mi mn pi pn oth ro rc q k c H fi fn ti tn h h2
theorem zY (w : World) (a : Int) : Calls Try.prog 67 #[iK a] w fun e w' => e = .returned (vFa) ∧ Gro w w' := by
  refine jK Try.func67 rfl Try.ntmps67 [iK a] [iK a, undef, undef, undef, undef, undef] rfl ?_
  have GG := Gro.refl w
  refine wp_seq (wp_region_lit (mv 2 (vFa) (wpList_nil (jc (wp_seq (wp_region_lit (mv 3 (iK a) (mv 4 (iK a) (sv 5 (vFa) (jP 2 .i64 _ _ _ rfl Try.underlying2 a a rfl rfl false (decide_eq_true rfl) _) (mv 2 (vFa) ?_))))))))))
  refine wpList_nil (jc (wp_ret ?_))
  refine bodyPost_ret (results_tmp Try.results67 _ _ _) rfl ?_
  exact ⟨rfl, GG⟩
theorem JV (w : World) (a b : Int) (h : a < b) : Calls Try.prog 66 #[iK a, iK b] w fun e w' => e = .returned (iK (-1)) ∧ Gro w w' := by
  refine jp Try.func66 rfl Try.ntmps66 [iK a, iK b] ?_
  intro U h; simp only [List.length_cons, List.length_nil, List.cons_append, List.nil_append, Nat.reduceAdd, Nat.reduceSub, List.reduceReplicate] at h; subst h
  have GG := Gro.refl w
  refine wp_seq (wp_region_lit (mv 4 (iK 0) (wpList_nil (jc (wp_seq (wp_region_lit (mv 7 (iK a) ?_)))))))
  refine jz 8 rfl rfl _ 67 Try.call67 rfl rfl _ rfl [iK a] rfl (zY _ a) ?_
  intro w1 G
  replace GG := GG.trans G
  clear G
  refine mv 5 (vFa) (wpList_nil (jc (wp_seq (wp_region_lit (mv 9 (iK b) ?_)))))
  refine jz 10 rfl rfl _ 67 Try.call67 rfl rfl _ rfl [iK b] rfl (zY _ b) ?_
  intro w2 G
  replace GG := GG.trans G
  clear G
  refine mv 6 (vFa) (wpList_nil (jc (wp_seq (wp_seq (wp_region_lit (mv 11 (vFa) (wpList_nil (jc (wp_cond_false rfl (wp_skip (jc (wp_seq (wp_seq (wp_region_lit (mv 13 (vFa) ?_)))))))))))))))
  refine nr ?_; intro U h; simp only [z0, z1] at h; subst h
  refine wpList_nil (jc (wp_cond_false rfl (wp_skip (jc (wp_seq (wp_seq (wp_region_lit (mv 14 (iK a) (mv 15 (iK b) (sv 16 (vTr) (jQ 2 _ _ _ rfl a b rfl rfl true (by first | exact decide_eq_true (by omega) | exact decide_eq_false (by omega)) _) (wpList_nil (jc (wp_cond_true rfl (wp_seq (wp_region_lit ?_)))))))))))))))
  refine mv 4 (iK (-1)) (wpList_nil (jc (wp_ret (jC ?_))))
  refine bodyPost_ret (results_tmp Try.results66 _ _ _) rfl ?_
  exact ⟨rfl, GG⟩
theorem JW (w : World) (a b : Int) (h : b < a) : Calls Try.prog 66 #[iK a, iK b] w fun e w' => e = .returned (iK (1)) ∧ Gro w w' := by
  refine jp Try.func66 rfl Try.ntmps66 [iK a, iK b] ?_
  intro U h; simp only [List.length_cons, List.length_nil, List.cons_append, List.nil_append, Nat.reduceAdd, Nat.reduceSub, List.reduceReplicate] at h; subst h
  have GG := Gro.refl w
  refine wp_seq (wp_region_lit (mv 4 (iK 0) (wpList_nil (jc (wp_seq (wp_region_lit (mv 7 (iK a) ?_)))))))
  refine jz 8 rfl rfl _ 67 Try.call67 rfl rfl _ rfl [iK a] rfl (zY _ a) ?_
  intro w1 G
  replace GG := GG.trans G
  clear G
  refine mv 5 (vFa) (wpList_nil (jc (wp_seq (wp_region_lit (mv 9 (iK b) ?_)))))
  refine jz 10 rfl rfl _ 67 Try.call67 rfl rfl _ rfl [iK b] rfl (zY _ b) ?_
  intro w2 G
  replace GG := GG.trans G
  clear G
  refine mv 6 (vFa) (wpList_nil (jc (wp_seq (wp_seq (wp_region_lit (mv 11 (vFa) (wpList_nil (jc (wp_cond_false rfl (wp_skip (jc (wp_seq (wp_seq (wp_region_lit (mv 13 (vFa) ?_)))))))))))))))
  refine nr ?_; intro U h; simp only [z0, z1] at h; subst h
  refine wpList_nil (jc (wp_cond_false rfl (wp_skip (jc (wp_seq (wp_seq (wp_region_lit (mv 14 (iK a) (mv 15 (iK b) (sv 16 (vFa) (jQ 2 _ _ _ rfl a b rfl rfl false (by first | exact decide_eq_true (by omega) | exact decide_eq_false (by omega)) _) (wpList_nil (jc (wp_cond_false rfl (wp_skip (jc ?_)))))))))))))))
  refine wp_seq (wp_seq (wp_region_lit (mv 17 (iK a) (mv 18 (iK b) (sv 19 (vTr) (jS 2 _ _ _ rfl a b rfl rfl true (by first | exact decide_eq_true (by omega) | exact decide_eq_false (by omega)) _) (wpList_nil (jc (wp_cond_true rfl (wp_seq (wp_region_lit (mv 4 (iK 1) (wpList_nil (jc (wp_ret (jC ?_)))))))))))))))
  refine bodyPost_ret (results_tmp Try.results66 _ _ _) rfl ?_
  exact ⟨rfl, GG⟩
theorem JX (w : World) (a b : Int) (h : a = b) : Calls Try.prog 66 #[iK a, iK b] w fun e w' => e = .returned (iK (0)) ∧ Gro w w' := by
  refine jp Try.func66 rfl Try.ntmps66 [iK a, iK b] ?_
  intro U h; simp only [List.length_cons, List.length_nil, List.cons_append, List.nil_append, Nat.reduceAdd, Nat.reduceSub, List.reduceReplicate] at h; subst h
  have GG := Gro.refl w
  refine wp_seq (wp_region_lit (mv 4 (iK 0) (wpList_nil (jc (wp_seq (wp_region_lit (mv 7 (iK a) ?_)))))))
  refine jz 8 rfl rfl _ 67 Try.call67 rfl rfl _ rfl [iK a] rfl (zY _ a) ?_
  intro w1 G
  replace GG := GG.trans G
  clear G
  refine mv 5 (vFa) (wpList_nil (jc (wp_seq (wp_region_lit (mv 9 (iK b) ?_)))))
  refine jz 10 rfl rfl _ 67 Try.call67 rfl rfl _ rfl [iK b] rfl (zY _ b) ?_
  intro w2 G
  replace GG := GG.trans G
  clear G
  refine mv 6 (vFa) (wpList_nil (jc (wp_seq (wp_seq (wp_region_lit (mv 11 (vFa) (wpList_nil (jc (wp_cond_false rfl (wp_skip (jc (wp_seq (wp_seq (wp_region_lit (mv 13 (vFa) ?_)))))))))))))))
  refine nr ?_; intro U h; simp only [z0, z1] at h; subst h
  refine wpList_nil (jc (wp_cond_false rfl (wp_skip (jc (wp_seq (wp_seq (wp_region_lit (mv 14 (iK a) (mv 15 (iK b) (sv 16 (vFa) (jQ 2 _ _ _ rfl a b rfl rfl false (by first | exact decide_eq_true (by omega) | exact decide_eq_false (by omega)) _) (wpList_nil (jc (wp_cond_false rfl (wp_skip (jc ?_)))))))))))))))
  refine wp_seq (wp_seq (wp_region_lit (mv 17 (iK a) (mv 18 (iK b) (sv 19 (vFa) (jS 2 _ _ _ rfl a b rfl rfl false (by first | exact decide_eq_true (by omega) | exact decide_eq_false (by omega)) _) (wpList_nil (jc (wp_cond_false rfl (wp_skip (jc (wp_seq (wp_region_lit (mv 4 (iK 0) (wpList_nil (jc ?_)))))))))))))))
  refine wp_ret ?_
  refine bodyPost_ret (results_tmp Try.results66 _ _ _) rfl ?_
  exact ⟨rfl, GG⟩
theorem yY (w : World) (a b : Int) : Calls Try.prog 66 #[iK a, iK b] w fun e w' => e = .returned (iK (cmpI a b)) ∧ Gro w w' := by
  unfold cmpI
  split
  · exact JV w a b ‹_›
  · split
    · exact JW w a b ‹_›
    · exact JX w a b (by omega)
theorem ab_at (a b : Int) (j : Nat) (h : j < 2) : (#[Value.int .i64 a, Value.int .i64 b] : Array Value)[j]? = some (iK ([a, b].getD j 0)) := by
  rcases j with _ | _ | j
  · rfl
  · rfl
  · omega
theorem Yi (a b : Int) : (if a = 0 then b else a) = if [a, b].getD 0 0 = 0 then [a, b].getD 1 0 else [a, b].getD 0 0 := rfl
theorem or_any (w : World) (g : Nat) (a b : Int) (H : w.heap[g]? = some (.cells #[iK a, iK b] 3 (0, 0))) : Calls Try.prog 65 #[.slice (some ⟨g, 0, none⟩) 2 2] w fun e w' => e = .returned (iK (if a = 0 then b else a)) ∧ Gro w w' := by
  refine jK Try.func65 rfl Try.ntmps65 [.slice (some ⟨g, 0, none⟩) 2 2] [.slice (some ⟨g, 0, none⟩) 2 2, undef, undef, undef, undef, undef, undef, undef, undef, undef, undef, undef, undef, undef, undef, undef, undef, undef] rfl ?_
  have GG := Gro.refl w
  have kg := H
  refine wp_seq (wp_region_lit (mv 2 (iK 0) (wpList_nil (jc (wp_seq (wp_region_lit (mv 3 (iK 0) (wpList_nil (jc (wp_seq (wp_seq (wp_region_lit (mv 6 (.slice (some ⟨g, 0, none⟩) 2 2) (sv 7 (iK ((2 : Nat) : Int)) (jM Try.underlying39 _ rfl _ _ _ rfl _) (mv 8 (iK 0) ?_)))))))))))))))
  refine wpList_nil (jc (wp_block ?_))
  refine zB (fun mz az wv => ∃ (j : Nat) (us1 : Nat → Value), mz = 2 - j ∧ az = ⟨[.slice (some ⟨g, 0, none⟩) 2 2, undef, us1 0, iK 0, undef, us1 1, .slice (some ⟨g, 0, none⟩) 2 2, iK ((2 : Nat) : Int), iK ((j : Nat) : Int), us1 2, us1 3, us1 4, us1 5, us1 6, us1 7, us1 8, us1 9, undef].toArray, []⟩ ∧ j ≤ 2 ∧ (∀ i, i < j → [a, b].getD i 0 = 0) ∧ Gro w wv ∧ wv.heap[g]? = some (.cells #[iK a, iK b] 3 (0, 0))) ?_ _ ⟨0, usB [2, 5, 9, 10, 11, 12, 13, 14, 15, 16] rfl rfl ⟨Nat.zero_le _, (fun i hi => absurd hi (by omega)), GG, kg⟩⟩
  clear kg GG
  rintro mz az wv ⟨j, us1, rfl, rfl, hj, hz, GG, kg⟩
  refine wp_seq (wp_region_lit ?_)
  obtain ⟨p1, hp1⟩ : ∃ p, decide (((j : Nat) : Int) < ((2 : Nat) : Int)) = p := ⟨_, rfl⟩
  refine sv 9 (.bool p1) (jQ 3 _ _ _ rfl ((j : Nat) : Int) ((2 : Nat) : Int) rfl rfl p1 hp1 _) ?_
  refine nr ?_; intro U h; simp only [z0, z1] at h; subst h
  cases p1
  have hjn : j = 2 := by have := of_decide_eq_false hp1; omega
  refine wpList_nil (jc (wp_seq (wp_cond_false rfl (wp_exit (zi (zi (yl (jc (wp_seq (wp_region_lit (mv 17 (iK 0) (mv 2 (iK 0) (wpList_nil (jc (wp_ret ?_)))))))))))))))
  refine bodyPost_ret (results_tmp Try.results65 _ _ _) rfl ?_
  refine ⟨?_, GG⟩
  rw [Yi]
  have h0 := hz 0 (by omega)
  have h1 := hz 1 (by omega)
  rw [if_pos h0, h1]
  rfl
  have hjn : j < 2 := by have := of_decide_eq_true hp1; omega
  refine wpList_nil (jc (wp_seq (wp_cond_true rfl (wp_skip (jc (wp_seq (wp_block (wp_seq (wp_region_lit (sv 10 (pK g j) ((vD iT28 _ _ rfl ⟨g, 0, none⟩ 2 2 j rfl rfl hjn _).trans (by rw [zO, Nat.zero_add])) (sv 11 (iK ([a, b].getD j 0)) (jh 3 _ rfl g j rfl 3 _ kg (na3 _) _ (ab_at a b j hjn)) (mv 5 (iK ([a, b].getD j 0)) (wpList_nil (jc (wp_seq ?_)))))))))))))))
  refine wp_region_lit (mv 12 (iK ([a, b].getD j 0)) (mv 13 (iK 0) ?_))
  refine nr ?_; intro U h; simp only [z0, z1] at h; subst h
  obtain ⟨p2, hp2⟩ : ∃ p, (!decide ([a, b].getD j 0 = 0)) = p := ⟨_, rfl⟩
  refine sv 14 (.bool p2) (ZY 3 _ _ _ rfl Try.underlying3 ([a, b].getD j 0) 0 rfl rfl p2 hp2 _) ?_
  refine nr ?_; intro U h; simp only [z0, z1] at h; subst h
  cases p2
  have hne : [a, b].getD j 0 = 0 := by simpa using hp2
  refine wpList_nil (jc (wp_cond_false rfl (wp_skip (zh (jc (wp_region_lit (sv 16 (iK ((j + 1 : Nat) : Int)) (jZ 3 _ _ _ rfl ((j : Nat) : Int) 1 ((j + 1 : Nat) : Int) rfl rfl (by omega) (by omega) (by omega) _) (mv 8 (iK ((j + 1 : Nat) : Int)) (wpList_nil (jc ?_))))))))))
  refine ⟨_, (by omega : 2 - (j + 1) < 2 - j), j + 1, usB [2, 5, 9, 10, 11, 12, 13, 14, 15, 16] rfl rfl ⟨hjn, fun i hi => ?_, GG, kg⟩⟩
  rcases Nat.lt_or_eq_of_le (Nat.le_of_lt_succ hi) with h | rfl
  exact hz i h
  exact hne
  have hne : ¬ [a, b].getD j 0 = 0 := by simpa using hp2
  refine wpList_nil (jc (wp_cond_true rfl (wp_seq (wp_region_lit (mv 15 (iK ([a, b].getD j 0)) (mv 2 (iK ([a, b].getD j 0)) (wpList_nil (jc (wp_ret (jV (jC (jC (jV (jC ?_))))))))))))))
  refine bodyPost_ret (results_tmp Try.results65 _ _ _) rfl ?_
  refine ⟨?_, GG⟩
  rw [Yi]
  rcases j with _ | _ | j
  rw [if_neg hne]; rfl
  rw [if_pos (hz 0 (by omega))]; rfl
  omega
theorem zu (w : World) (ai an bi bn : Int) : Calls Try.prog 55 #[.agg (c29 ai an), .agg (c29 bi bn)] w fun e w' => e = .returned (iK (cmpP ai an bi bn)) ∧ Gro w w' := by
  refine jK Try.func55 rfl Try.ntmps55 [.agg (c29 ai an), .agg (c29 bi bn)] [.agg (c29 ai an), .agg (c29 bi bn), undef, undef, undef, undef, undef, undef, undef, undef, undef, undef, undef, undef, undef, undef, undef] rfl ?_
  have GG := Gro.refl w
  refine wp_seq (wp_region_lit ?_)
  refine jB 2 rfl rfl 29 _ rfl _ rfl (c29 ai an) rfl ?_
  intro w1 g1 G eg1 kg1
  have bg1 := jm GG eg1
  replace GG := GG.trans G
  clear G eg1
  refine jB 3 rfl rfl 29 _ rfl _ rfl (c29 bi bn) rfl ?_
  intro w2 g2 G eg2 kg2
  have bg2 := jm GG eg2
  have dg1g2 := je kg1 eg2
  replace kg1 := G.has kg1
  replace GG := GG.trans G
  clear G eg2
  refine mv 4 (iK 0) (wpList_nil (jc (wp_seq ?_)))
  refine jk (A := ?Ax5) 9 [(0, 5), (1, 6), (2, 7), (3, 8), (4, 9), (5, 10), (6, 11), (7, 12), (8, 13)] [.val (pK g1 0), .val (iK ai), .val (pK g2 0), .val (iK bi), .val (iK (cmpI ai bi)), .val (pK g1 1), .val (iK an), .val (pK g2 1), .val (iK bn)] follows (by kernel_rfl) rfl ?hAx5 (ja ?o0x5 (ja ?o1x5 (ja ?o2x5 (ja ?o3x5 (ja ?o4x5 (ja ?o5x5 (ja ?o6x5 (ja ?o7x5 (ja ?o8x5 jw))))))))) ?restx5
  case hAx5 =>
    intro ptrs
    simp only [full, foldSlots, filledE, postE, List.foldl_cons, List.foldl_nil, List.getD_cons_zero, List.getD_cons_succ, jr, List.set_cons_zero, List.set_cons_succ]
    exact rfl
  case o0x5 => exact fun _ _ hw _ => jb (v := pK g1 0) rfl (jd 29 _ 0 rfl _ _ rfl _)
  case o1x5 => exact fun _ _ hw _ => jb (v := iK ai) rfl (jh 2 _ rfl g1 0 rfl 29 _ (hw.has kg1) (na2 _) _ rfl)
  case o2x5 => exact fun _ _ hw _ => jb (v := pK g2 0) rfl (jd 29 _ 0 rfl _ _ rfl _)
  case o3x5 => exact fun _ _ hw _ => jb (v := iK bi) rfl (jh 2 _ rfl g2 0 rfl 29 _ (hw.has kg2) (na2 _) _ rfl)
  case o4x5 => exact fun _ _ hw _ => jT (.val (iK (cmpI ai bi))) rfl _ 66 Try.call66 rfl rfl _ rfl [iK ai, iK bi] rfl ((yY _ ai bi).mono fun e w' ⟨he, hg⟩ => ⟨_, he, hg, rfl⟩)
  case o5x5 => exact fun _ _ hw _ => jb (v := pK g1 1) rfl (jd 29 _ 1 rfl _ _ rfl _)
  case o6x5 => exact fun _ _ hw _ => jb (v := iK an) rfl (jh 2 _ rfl g1 1 rfl 29 _ (hw.has kg1) (na2 _) _ rfl)
  case o7x5 => exact fun _ _ hw _ => jb (v := pK g2 1) rfl (jd 29 _ 1 rfl _ _ rfl _)
  case o8x5 => exact fun _ _ hw _ => jb (v := iK bn) rfl (jh 2 _ rfl g2 1 rfl 29 _ (hw.has kg2) (na2 _) _ rfl)
  intro ptrs w3 GD hxE
  simp only [List.drop_succ_cons, List.drop_zero]
  replace kg1 := GD.has kg1
  replace kg2 := GD.has kg2
  replace GG := GG.drew.trans GD
  clear GD
  refine jz 14 rfl rfl _ 66 Try.call66 rfl rfl _ rfl [iK an, iK bn] rfl (yY _ an bn) ?_
  intro w4 G
  replace kg1 := G.has kg1
  replace kg2 := G.has kg2
  replace GG := GG.trans G
  clear G
  refine zk 15 rfl rfl 39 2 _ rfl [(0, iK (cmpI ai bi)), (1, iK (cmpI an bn))] rfl #[iK (cmpI ai bi), iK (cmpI an bn)] 3 (by kernel_rfl) ?_
  intro w5 gs G egs kgs
  have bgs := jm GG egs
  have dg1gs := je kg1 egs
  have dg2gs := je kg2 egs
  replace kg1 := G.has kg1
  replace kg2 := G.has kg2
  replace GG := GG.trans G
  clear G egs
  refine jz 16 rfl rfl _ 65 Try.call65 rfl rfl _ rfl [.slice (some ⟨gs, 0, none⟩) 2 2] rfl (or_any _ gs (cmpI ai bi) (cmpI an bn) kgs) ?_
  intro w6 G
  replace kg1 := G.has kg1
  replace kg2 := G.has kg2
  replace kgs := G.has kgs
  replace GG := GG.trans G
  clear G
  refine mv 4 (iK (cmpP ai an bi bn)) (wpList_nil (jc (wp_ret ?_)))
  refine bodyPost_ret (results_tmp Try.results55 _ _ _) rfl ?_
  exact ⟨rfl, GG⟩
theorem jG {w : World} {g : Nat} {c : Array Value} {t : TypeId} (h : w.heap[g]? = some (.cells c t (0, 0))) (ht : t ≠ 5) : No5 w [g] := fun k hk => by
  cases List.mem_singleton.1 hk
  exact ⟨_, _, h, ht⟩
theorem zt (w : World) (p wp B : Nat) (id : Nat → Nat) (up op : Bool) (mi mn pi pn : Int) (oth : Nat → Nat) (ro : Option Addr) (rc : Nat) (q : List RV) (k c : Nat) (H : EW w p wp B id up op mi mn pi pn oth ro rc q k c) : Calls Try.prog 35 #[pK p 0] w (PlP w ⟨1, id, mi, mn, pi, pn, 0, []⟩) := by
  refine jK Try.func35 rfl Try.ntmps35 [pK p 0] [pK p 0, undef, undef, undef, undef, undef, undef, undef, undef, undef, undef, undef, undef, undef, undef, undef, undef, undef] rfl ?_
  have GG := Gro.refl w
  have kp := H.box
  have HW := H.win
  have hpl := ju kp
  refine wp_seq (wp_region_lit ?_)
  refine jq 2 rfl rfl 46 rfl _ zv46 _ rfl ?_
  intro w1 g1 G eg1 kg1
  have bg1 := jm GG eg1
  have dpg1 := je kp eg1
  replace kp := G.has kp
  replace HW := HW.gro G
  replace GG := GG.trans G
  clear G eg1
  refine wpList_nil (jc (wp_seq ?_))
  refine jk (A := ?Ax6) 12 [(0, 3), (1, 4), (2, 5), (3, 6), (4, 7), (5, 8), (6, 9), (7, 10), (8, 11), (9, 12), (10, 13), (11, 14)] [.val (pK p 0), .val (pK p 0), .val (pK p 18), .val (.agg (c29 mi mn)), .val (pK p 0), .val (pK p 0), .val (pK p 20), .val (.agg (c29 pi pn)), .val (pK p 0), .val (pK p 0), .val (pK p 0), .val (.agg (c23 id))] follows (by kernel_rfl) rfl ?hAx6 (ja ?o0x6 (ja ?o1x6 (ja ?o2x6 (ja ?o3x6 (ja ?o4x6 (ja ?o5x6 (ja ?o6x6 (ja ?o7x6 (ja ?o8x6 (ja ?o9x6 (ja ?o10x6 (ja ?o11x6 jw)))))))))))) ?restx6
  case hAx6 =>
    intro ptrs
    simp only [full, foldSlots, filledE, postE, List.foldl_cons, List.foldl_nil, List.getD_cons_zero, List.getD_cons_succ, jr, List.set_cons_zero, List.set_cons_succ]
    exact rfl
  case o0x6 => exact fun _ _ _ _ => jg (v := pK p 0) _ rfl rfl rfl
  case o1x6 => exact fun _ _ hw _ => jb (v := pK p 0) rfl (jj _ rfl _ rfl)
  case o2x6 => exact fun _ _ hw _ => jb (v := pK p 18) rfl (jd 98 _ 3 rfl _ _ rfl _)
  case o3x6 => exact fun _ _ hw _ => jb (v := .agg (c29 mi mn)) rfl (jf 29 _ rfl p 18 2 rfl 98 _ (hw.has kp) _ Try.underlying29 rfl si29 _)
  case o4x6 => exact fun _ _ _ _ => jg (v := pK p 0) _ rfl rfl rfl
  case o5x6 => exact fun _ _ hw _ => jb (v := pK p 0) rfl (jj _ rfl _ rfl)
  case o6x6 => exact fun _ _ hw _ => jb (v := pK p 20) rfl (jd 98 _ 4 rfl _ _ rfl _)
  case o7x6 => exact fun _ _ hw _ => jb (v := .agg (c29 pi pn)) rfl (jf 29 _ rfl p 20 2 rfl 98 _ (hw.has kp) _ Try.underlying29 rfl si29 _)
  case o8x6 => exact fun _ _ _ _ => jg (v := pK p 0) _ rfl rfl rfl
  case o9x6 => exact fun _ _ hw _ => jb (v := pK p 0) rfl (jj _ rfl _ rfl)
  case o10x6 => exact fun _ _ hw _ => jb (v := pK p 0) rfl (jd 98 _ 0 rfl _ _ rfl _)
  case o11x6 => exact fun _ _ hw _ => jb (v := .agg (c23 id)) rfl (jf 23 _ rfl p 0 16 rfl 98 _ (hw.has kp) _ Try.underlying23 rfl si23 _)
  intro ptrs w2 GD hxE
  simp only [List.drop_succ_cons, List.drop_zero]
  replace kp := GD.has kp
  replace kg1 := GD.has kg1
  replace HW := HW.gro ((Gro.refl _).drew.trans GD)
  replace GG := GG.drew.trans GD
  clear GD
  refine sv 15 (.agg (c110 mi mn pi pn id)) (jy 110 _ rfl [(0, .agg (c29 mi mn)), (1, .agg (c29 pi pn)), (2, .agg (c23 id))] rfl _ (by kernel_rfl)) (sv 16 (.iface 110 (.agg (c110 mi mn pi pn id))) (zN 110 _ rfl _ rfl) ?_)
  refine jD 17 rfl rfl _ 50 Try.call50 rfl rfl _ rfl [.iface 110 (.agg (c110 mi mn pi pn id))] rfl (plain_h _ id mi mn pi pn) (fun _ _ ⟨_, _, _, _, _, he, _⟩ => ⟨_, he⟩) ?_
  rintro v w3 ⟨s1g, s2g, s3g, aog, capg, he, HVg, G⟩
  cases he
  replace kp := G.has kp
  replace kg1 := G.has kg1
  replace HW := HW.gro G
  replace GG := GG.trans G
  clear G
  refine jn rfl rfl 46 _ _ rfl g1 0 rfl (.agg (c46 1 zF 0 false id zF 0 mi mn pi pn s1g s2g zF 0 zF s3g 0 0 ⟨aog, 0, capg⟩)) rfl 46 _ kg1 (c46 1 zF 0 false id zF 0 mi mn pi pn s1g s2g zF 0 zF s3g 0 0 ⟨aog, 0, capg⟩) rfl (by kernel_rfl) (nlB rfl) (by kernel_rfl) (c46 1 zF 0 false id zF 0 mi mn pi pn s1g s2g zF 0 zF s3g 0 0 ⟨aog, 0, capg⟩) (by kernel_rfl) ?_
  intro w5 St
  replace kp := St.has (by omega) kp
  replace HW := HW.stT (by decide) (by decide) (by decide) kg1 St
  replace HVg := HVg.no5 ((GroS.refl [g1] _).st St (.inr (by simp))) (jG kg1 (by decide))
  replace GG := GG.store St bg1
  replace kg1 := St.new
  clear St
  refine wpList_nil (jc (wp_ret ?_))
  refine bodyPost_ret (results_cell_row Try.results35 _ _ g1 46 _ (0, 0) _ rfl kg1 Try.underlying46 rfl (by kernel_rfl)) rfl ?_
  exact ⟨_, _, _, _, _, rfl, HVg, GG⟩
theorem Jp (w : World) (p wp B : Nat) (id : Nat → Nat) (up op : Bool) (mi mn pi pn : Int) (oth : Nat → Nat) (ro : Option Addr) (rc : Nat) (q : List RV) (k c : Nat) (H : EW w p wp B id up op mi mn pi pn oth ro rc q k c) (n : Int) (ao : Option Addr) (cap : Nat) (l : List Nat) (HL : NC w .u8 ao cap l) (hl : l.length ≤ 140737488355000) : Calls Try.prog 38 #[pK p 0, iK n, .slice ao l.length cap] w (PlP w ⟨2, zF, mi, mn, pi, pn, n, l⟩) := by
  refine jK Try.func38 rfl Try.ntmps38 [pK p 0, iK n, .slice ao l.length cap] [pK p 0, iK n, .slice ao l.length cap, undef, undef, undef, undef, undef, undef, undef, undef, undef, undef, undef, undef, undef, undef, undef, undef, undef] rfl ?_
  have GG := Gro.refl w
  have kp := H.box
  have HW := H.win
  have hpl := ju kp
  refine wp_seq (wp_region_lit ?_)
  refine jq 6 rfl rfl 46 rfl _ zv46 _ rfl ?_
  intro w1 g1 G eg1 kg1
  have bg1 := jm GG eg1
  have dpg1 := je kp eg1
  replace kp := G.has kp
  replace HW := HW.gro G
  replace GG := GG.trans G
  clear G eg1
  refine wpList_nil (jc (wp_seq ?_))
  refine jk (A := ?Ax7) 10 [(0, 7), (1, 8), (2, 9), (3, 10), (4, 11), (5, 12), (6, 13), (7, 14), (8, 15), (9, 16)] [.val (pK p 0), .val (pK p 0), .val (pK p 18), .val (.agg (c29 mi mn)), .val (pK p 0), .val (pK p 0), .val (pK p 20), .val (.agg (c29 pi pn)), .val (iK n), .val (.slice ao l.length cap)] follows (by kernel_rfl) rfl ?hAx7 (ja ?o0x7 (ja ?o1x7 (ja ?o2x7 (ja ?o3x7 (ja ?o4x7 (ja ?o5x7 (ja ?o6x7 (ja ?o7x7 (ja ?o8x7 (ja ?o9x7 jw)))))))))) ?restx7
  case hAx7 =>
    intro ptrs
    simp only [full, foldSlots, filledE, postE, List.foldl_cons, List.foldl_nil, List.getD_cons_zero, List.getD_cons_succ, jr, List.set_cons_zero, List.set_cons_succ]
    exact rfl
  case o0x7 => exact fun _ _ _ _ => jg (v := pK p 0) _ rfl rfl rfl
  case o1x7 => exact fun _ _ hw _ => jb (v := pK p 0) rfl (jj _ rfl _ rfl)
  case o2x7 => exact fun _ _ hw _ => jb (v := pK p 18) rfl (jd 98 _ 3 rfl _ _ rfl _)
  case o3x7 => exact fun _ _ hw _ => jb (v := .agg (c29 mi mn)) rfl (jf 29 _ rfl p 18 2 rfl 98 _ (hw.has kp) _ Try.underlying29 rfl si29 _)
  case o4x7 => exact fun _ _ _ _ => jg (v := pK p 0) _ rfl rfl rfl
  case o5x7 => exact fun _ _ hw _ => jb (v := pK p 0) rfl (jj _ rfl _ rfl)
  case o6x7 => exact fun _ _ hw _ => jb (v := pK p 20) rfl (jd 98 _ 4 rfl _ _ rfl _)
  case o7x7 => exact fun _ _ hw _ => jb (v := .agg (c29 pi pn)) rfl (jf 29 _ rfl p 20 2 rfl 98 _ (hw.has kp) _ Try.underlying29 rfl si29 _)
  case o8x7 => exact fun _ _ _ _ => jg (v := iK n) _ rfl rfl rfl
  case o9x7 => exact fun _ _ _ _ => jg (v := .slice ao l.length cap) _ rfl rfl rfl
  intro ptrs w2 GD hxE
  simp only [List.drop_succ_cons, List.drop_zero]
  replace kp := GD.has kp
  replace kg1 := GD.has kg1
  replace HW := HW.gro ((Gro.refl _).drew.trans GD)
  replace GG := GG.drew.trans GD
  clear GD
  refine sv 17 (.agg (c125 mi mn pi pn n ⟨ao, l.length, cap⟩)) (jy 125 _ rfl [(0, .agg (c29 mi mn)), (1, .agg (c29 pi pn)), (2, iK n), (3, .slice ao l.length cap)] rfl _ (by kernel_rfl)) (sv 18 (.iface 125 (.agg (c125 mi mn pi pn n ⟨ao, l.length, cap⟩))) (zN 125 _ rfl _ rfl) ?_)
  refine jD 19 rfl rfl _ 50 Try.call50 rfl rfl _ rfl [.iface 125 (.agg (c125 mi mn pi pn n ⟨ao, l.length, cap⟩))] rfl (plain_d _ mi mn pi pn n ao cap l (HL.gro GG) hl) (fun _ _ ⟨_, _, _, _, _, he, _⟩ => ⟨_, he⟩) ?_
  rintro v w3 ⟨s1g, s2g, s3g, aog, capg, he, HVg, G⟩
  cases he
  replace kp := G.has kp
  replace kg1 := G.has kg1
  replace HW := HW.gro G
  replace GG := GG.trans G
  clear G
  refine jn rfl rfl 46 _ _ rfl g1 0 rfl (.agg (c46 2 zF 0 false zF zF n mi mn pi pn s1g s2g zF 0 zF s3g 0 0 ⟨aog, l.length, capg⟩)) rfl 46 _ kg1 (c46 2 zF 0 false zF zF n mi mn pi pn s1g s2g zF 0 zF s3g 0 0 ⟨aog, l.length, capg⟩) rfl (by kernel_rfl) (nlB rfl) (by kernel_rfl) (c46 2 zF 0 false zF zF n mi mn pi pn s1g s2g zF 0 zF s3g 0 0 ⟨aog, l.length, capg⟩) (by kernel_rfl) ?_
  intro w5 St
  replace kp := St.has (by omega) kp
  replace HW := HW.stT (by decide) (by decide) (by decide) kg1 St
  replace HVg := HVg.no5 ((GroS.refl [g1] _).st St (.inr (by simp))) (jG kg1 (by decide))
  replace GG := GG.store St bg1
  replace kg1 := St.new
  clear St
  refine wpList_nil (jc (wp_ret ?_))
  refine bodyPost_ret (results_cell_row Try.results38 _ _ g1 46 _ (0, 0) _ rfl kg1 Try.underlying46 rfl (by kernel_rfl)) rfl ?_
  exact ⟨_, _, _, _, _, rfl, HVg, GG⟩
theorem uJ (w : World) (p wp B : Nat) (id : Nat → Nat) (up op : Bool) (mi mn pi pn : Int) (oth : Nat → Nat) (ro : Option Addr) (rc : Nat) (q : List RV) (k c : Nat) (H : EW w p wp B id up op mi mn pi pn oth ro rc q k c) (hk : k + q.length ≤ 100000) (hc : c ≤ 100000) : Calls Try.prog 57 #[pK p 0] w (PlP w ⟨3, zF, mi, mn, pi, pn, ((c : Nat) : Int), []⟩) := by
  refine jp Try.func57 rfl Try.ntmps57 [pK p 0] ?_
  intro U h; simp only [List.length_cons, List.length_nil, List.cons_append, List.nil_append, Nat.reduceAdd, Nat.reduceSub, List.reduceReplicate] at h; subst h
  have GG := Gro.refl w
  have kp := H.box
  have HW := H.win
  have hpl := ju kp
  refine wp_seq (wp_region_lit ?_)
  refine jq 2 rfl rfl 46 rfl _ zv46 _ rfl ?_
  intro w1 g1 G eg1 kg1
  have bg1 := jm GG eg1
  have dpg1 := je kp eg1
  replace kp := G.has kp
  replace HW := HW.gro G
  replace GG := GG.trans G
  clear G eg1
  refine wpList_nil (jc (wp_seq ?_))
  refine jk (A := ?Ax8) 13 [(0, 3), (1, 4), (2, 5), (3, 6), (4, 7), (5, 8), (6, 9), (7, 10), (8, 11), (9, 12), (10, 13), (11, 14), (12, 15)] [.val (pK p 0), .val (pK p 0), .val (pK p 18), .val (.agg (c29 mi mn)), .val (pK p 0), .val (pK p 0), .val (pK p 20), .val (.agg (c29 pi pn)), .val (pK p 0), .val (pK p 0), .val (pK p 38), .val (pK wp 0), .val (iK ((c : Nat) : Int))] follows (by kernel_rfl) rfl ?hAx8 (ja ?o0x8 (ja ?o1x8 (ja ?o2x8 (ja ?o3x8 (ja ?o4x8 (ja ?o5x8 (ja ?o6x8 (ja ?o7x8 (ja ?o8x8 (ja ?o9x8 (ja ?o10x8 (ja ?o11x8 (ja ?o12x8 jw))))))))))))) ?restx8
  case hAx8 =>
    intro ptrs
    simp only [full, foldSlots, filledE, postE, List.foldl_cons, List.foldl_nil, List.getD_cons_zero, List.getD_cons_succ, jr, List.set_cons_zero, List.set_cons_succ]
    exact rfl
  case o0x8 => exact fun _ _ _ _ => jg (v := pK p 0) _ rfl rfl rfl
  case o1x8 => exact fun _ _ hw _ => jb (v := pK p 0) rfl (jj _ rfl _ rfl)
  case o2x8 => exact fun _ _ hw _ => jb (v := pK p 18) rfl (jd 98 _ 3 rfl _ _ rfl _)
  case o3x8 => exact fun _ _ hw _ => jb (v := .agg (c29 mi mn)) rfl (jf 29 _ rfl p 18 2 rfl 98 _ (hw.has kp) _ Try.underlying29 rfl si29 _)
  case o4x8 => exact fun _ _ _ _ => jg (v := pK p 0) _ rfl rfl rfl
  case o5x8 => exact fun _ _ hw _ => jb (v := pK p 0) rfl (jj _ rfl _ rfl)
  case o6x8 => exact fun _ _ hw _ => jb (v := pK p 20) rfl (jd 98 _ 4 rfl _ _ rfl _)
  case o7x8 => exact fun _ _ hw _ => jb (v := .agg (c29 pi pn)) rfl (jf 29 _ rfl p 20 2 rfl 98 _ (hw.has kp) _ Try.underlying29 rfl si29 _)
  case o8x8 => exact fun _ _ _ _ => jg (v := pK p 0) _ rfl rfl rfl
  case o9x8 => exact fun _ _ hw _ => jb (v := pK p 0) rfl (jj _ rfl _ rfl)
  case o10x8 => exact fun _ _ hw _ => jb (v := pK p 38) rfl (jd 98 _ 6 rfl _ _ rfl _)
  case o11x8 => exact fun _ _ hw _ => jb (v := pK wp 0) rfl (jh 95 _ rfl p 38 rfl 98 _ (hw.has kp) (na95 _) _ rfl)
  case o12x8 => exact fun _ _ hw _ => jT (.val (iK ((c : Nat) : Int))) rfl _ 49 Try.call49 rfl rfl _ rfl [pK wp 0] rfl ((Zh _ wp B ro rc q k c (HW.gro ((Gro.refl _).drew.trans hw)) hk hc).mono fun e w' ⟨he, hg⟩ => ⟨_, he, hg, rfl⟩)
  intro ptrs w2 GD hxE
  simp only [List.drop_succ_cons, List.drop_zero]
  replace kp := GD.has kp
  replace kg1 := GD.has kg1
  replace HW := HW.gro ((Gro.refl _).drew.trans GD)
  replace GG := GG.drew.trans GD
  clear GD
  refine sv 16 (.agg (c129 mi mn pi pn ((c : Nat) : Int))) (jy 129 _ rfl [(0, .agg (c29 mi mn)), (1, .agg (c29 pi pn)), (2, iK ((c : Nat) : Int))] rfl _ (by kernel_rfl)) (sv 17 (.iface 129 (.agg (c129 mi mn pi pn ((c : Nat) : Int)))) (zN 129 _ rfl _ rfl) ?_)
  refine jD 18 rfl rfl _ 50 Try.call50 rfl rfl _ rfl [.iface 129 (.agg (c129 mi mn pi pn ((c : Nat) : Int)))] rfl (plain_a _ mi mn pi pn ((c : Nat) : Int)) (fun _ _ ⟨_, _, _, _, _, he, _⟩ => ⟨_, he⟩) ?_
  rintro v w3 ⟨s1g, s2g, s3g, aog, capg, he, HVg, G⟩
  cases he
  replace kp := G.has kp
  replace kg1 := G.has kg1
  replace HW := HW.gro G
  replace GG := GG.trans G
  clear G
  refine jn rfl rfl 46 _ _ rfl g1 0 rfl (.agg (c46 3 zF 0 false zF zF ((c : Nat) : Int) mi mn pi pn s1g s2g zF 0 zF s3g 0 0 ⟨aog, 0, capg⟩)) rfl 46 _ kg1 (c46 3 zF 0 false zF zF ((c : Nat) : Int) mi mn pi pn s1g s2g zF 0 zF s3g 0 0 ⟨aog, 0, capg⟩) rfl (by kernel_rfl) (nlB rfl) (by kernel_rfl) (c46 3 zF 0 false zF zF ((c : Nat) : Int) mi mn pi pn s1g s2g zF 0 zF s3g 0 0 ⟨aog, 0, capg⟩) (by kernel_rfl) ?_
  intro w5 St
  replace kp := St.has (by omega) kp
  replace HW := HW.stT (by decide) (by decide) (by decide) kg1 St
  replace HVg := HVg.no5 ((GroS.refl [g1] _).st St (.inr (by simp))) (jG kg1 (by decide))
  replace GG := GG.store St bg1
  replace kg1 := St.new
  clear St
  refine wpList_nil (jc (wp_ret ?_))
  refine bodyPost_ret (results_cell_row Try.results57 _ _ g1 46 _ (0, 0) _ rfl kg1 Try.underlying46 rfl (by kernel_rfl)) rfl ?_
  exact ⟨_, _, _, _, _, rfl, HVg, GG⟩
end Go.Proofs.Ytlfanecaglbomaa
