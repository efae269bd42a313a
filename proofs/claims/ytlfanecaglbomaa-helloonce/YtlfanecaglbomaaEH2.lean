/- The program's end: what it tells, its frames, how numbers compare. -/
import Derived.Test.YtlfanecaglbomaaEH1
namespace Go.Proofs.Ytlfanecaglbomaa
set_option maxRecDepth 100000
set_option maxHeartbeats 4000000
open Go.RowKit
def nwE (M : Nat) : PostE := PostE.ex (fun v x => ∃ wp, v = pK wp 0 ∧ M ≤ wp ∧ WX 121 (c121 0 Sl.nil 0) x wp M none 0 []) (fun _ _ _ G ⟨g, h1, h2, h3⟩ => ⟨g, h1, h2, h3.gro G⟩)
theorem yW (M : Nat) (v : Value) : (nwE M).fill v = v := rfl
theorem WX.base0 {t : TypeId} {cs : Array Value} {w : World} {p B B' : Nat} (H : WX t cs w p B none 0 []) (h : B' ≤ B) : WX t cs w p B' none 0 [] := WX.new H.box (Nat.le_trans h H.base) H.ty
section
variable {o : Oper} {A : Act}
theorem jW (x y : Operand) (t2 : TypeId) (ho : o.op = .binOp .eql 29 x y t2) (a b c d : Int) (hx : A.eval x = .agg (c29 a b)) (hy : A.eval y = .agg (c29 c d)) (r : Bool) (hr : (decide (a = c) && decide (b = d)) = r) (w : World) : (execOp A.eval o).run Try.prog w = .ok (.value (.bool r)) w := by
  subst hr
  exact vM .eql 29 x y t2 ho _ _ hx hy (by kernel_rfl) _ (eq27 _ _ _ _ _)
theorem ne27 (x y n m : Int) (w : World) : (binOp .neq 29 (.agg (c29 x n)) (.agg (c29 y m))).run Try.prog w = .ok (.bool (!(decide (x = y) && decide (n = m)))) w := by
  have h : (Op.equal 29 (.agg (c29 x n)) (.agg (c29 y m))).run Try.prog w = .ok (decide (x = y) && decide (n = m)) w := eqF27 _ x y n m w
  simp [binOp, h, go_sem]
theorem JR (x y : Operand) (t2 : TypeId) (ho : o.op = .binOp .neq 29 x y t2) (a b c d : Int) (hx : A.eval x = .agg (c29 a b)) (hy : A.eval y = .agg (c29 c d)) (r : Bool) (hr : (!(decide (a = c) && decide (b = d))) = r) (w : World) : (execOp A.eval o).run Try.prog w = .ok (.value (.bool r)) w := by
  subst hr
  exact vM .neq 29 x y t2 ho _ _ hx hy (by kernel_rfl) _ (ne27 _ _ _ _ _)
theorem ZG {P : Program} (t : TypeId) (x y : Operand) (t2 : TypeId) (ho : o.op = .binOp .neq t x y t2) (hu : P.underlying t = some (.int .i64)) (a b : Int) (hx : A.eval x = iK a) (hy : A.eval y = iK b) (r : Bool) (hr : (!decide (a = b)) = r) (w : World) : (execOp A.eval o).run P w = .ok (.value (.bool r)) w :=
  zG t .i64 x y t2 ho hu a b hx hy r (by subst hr; simp) w
end
def cmpI (a b : Int) : Int := if a < b then -1 else if b < a then 1 else 0
def cmpP (ai an bi bn : Int) : Int := if cmpI ai bi = 0 then cmpI an bn else cmpI ai bi
theorem cmpI_zero {a b : Int} : cmpI a b = 0 ↔ a = b := by unfold cmpI; split <;> (try split) <;> omega
theorem Jm {a b : Int} : cmpI a b < 0 ↔ a < b := by unfold cmpI; split <;> (try split) <;> omega
theorem Jl {a b : Int} : 0 < cmpI a b ↔ b < a := by unfold cmpI; split <;> (try split) <;> omega
theorem Yq (ai an bi bn : Int) : decide (cmpP ai an bi bn < 0) = lessN ai an bi bn := by
  unfold cmpP lessN
  by_cases h : ai = bi
  · rw [if_pos (cmpI_zero.2 h), if_pos h]
    exact decide_eq_decide.2 Jm
  · rw [if_neg (fun e => h (cmpI_zero.1 e)), if_neg h]
    exact decide_eq_decide.2 Jm
theorem Yp (ai an bi bn : Int) : decide (0 < cmpP ai an bi bn) = lessN bi bn ai an := by
  unfold cmpP lessN
  by_cases h : ai = bi
  · rw [if_pos (cmpI_zero.2 h), if_pos h.symm]
    exact decide_eq_decide.2 Jl
  · rw [if_neg (fun e => h (cmpI_zero.1 e)), if_neg (fun e => h e.symm)]
    exact decide_eq_decide.2 Jl
theorem yh (w : World) (id : Nat → Nat) : Calls Try.prog 7 #[.agg (c23 id)] w fun e w' => ∃ p wp, e = .returned (pK p 0) ∧ Gro w w' ∧ w.heap.size ≤ p ∧ w.heap.size ≤ wp ∧ EW w' p wp w.heap.size id false false 0 0 0 0 zF none 0 [] 0 0 := by
  refine jT Try.func7 rfl Try.ntmps7 [.agg (c23 id)] [.agg (c23 id), undef, undef, undef, undef, undef, undef] rfl ?_
  have GG := Gro.refl w
  refine wp_seq (wp_region_lit ?_)
  refine jE 1 rfl rfl 23 _ rfl _ rfl (c23 id) rfl ?_
  intro w1 g1 G eg1 kg1
  have bg1 := jh GG eg1
  replace GG := GG.trans G
  clear G eg1
  refine mv 2 (.pointer none) (wpList_nil (ja (wp_seq ?_)))
  refine jw (A := ?Ax1) 2 [(0, 3), (1, 4)] [.val (.agg (c23 id)), nwE w.heap.size] follows (by kernel_rfl) rfl ?hAx1 (jd ?o0x1 (jd ?o1x1 jM)) ?restx1
  case hAx1 =>
    intro ptrs
    simp only [full, foldSlots, filledE, postE, List.foldl_cons, List.foldl_nil, List.getD_cons_zero, List.getD_cons_succ, ju, yW, List.set_cons_zero, List.set_cons_succ]
    exact rfl
  case o0x1 => exact fun _ _ hw _ => jb (v := .agg (c23 id)) rfl (jk 23 _ rfl g1 0 16 rfl 23 _ (hw.has kg1) _ Try.underlying23 rfl si23 _)
  case o1x1 => exact fun _ _ hw _ => zK (nwE w.heap.size) rfl _ 34 Try.call34 rfl rfl _ rfl [] rfl ((yT _).mono fun e w' ⟨g, he, hg, hz, hk⟩ => ⟨_, he, hg, g, rfl, Nat.le_trans (GG.drew.trans hw).size hz, hk.base0 (GG.drew.trans hw).size⟩)
  intro ptrs w2 GD hxE
  simp only [List.drop_succ_cons, List.drop_zero]
  replace kg1 := GD.has kg1
  replace GG := GG.drew.trans GD
  obtain ⟨⟨wp, hv, hwp, HW⟩, _⟩ := hxE
  simp only [hv]
  clear hv
  clear GD
  refine sv 5 (.agg (c98 id false false 0 0 0 0 zF (some ⟨wp, 0, none⟩))) (jA 98 _ rfl [(0, .agg (c23 id)), (6, pK wp 0)] rfl _ (by kernel_rfl)) ?_
  refine jE 6 rfl rfl 98 _ rfl _ rfl (c98 id false false 0 0 0 0 zF (some ⟨wp, 0, none⟩)) rfl ?_
  intro w3 g2 G eg2 kg2
  have bg2 := jh GG eg2
  have dg1g2 := jf kg1 eg2
  replace kg1 := G.has kg1
  replace HW := HW.gro G
  replace GG := GG.trans G
  clear G eg2
  refine nr ?_; intro U h; simp only [z0, z1] at h; subst h
  refine mv 2 (pK g2 0) (wpList_nil (ja (wp_ret ?_)))
  refine bodyPost_ret (results_tmp Try.results7 _ _ _) rfl ?_
  exact ⟨g2, wp, rfl, GG, bg2, hwp, kg2, HW⟩
theorem yj (w : World) (p wp B : Nat) (id : Nat → Nat) (up op : Bool) (mi mn pi pn : Int) (oth : Nat → Nat) (ro : Option Addr) (rc : Nat) (q : List RV) (k c : Nat) (H : EW w p wp B id up op mi mn pi pn oth ro rc q k c) : Calls Try.prog 28 #[pK p 0] w fun e w' => e = .returned (.bool up) ∧ Gro w w' := by
  refine jT Try.func28 rfl Try.ntmps28 [pK p 0] [pK p 0, undef, undef, undef, undef, undef, undef, undef, undef, undef, undef] rfl ?_
  have GG := Gro.refl w
  have kp := H.box
  have HW := H.win
  have hpl := jm kp
  refine wp_seq (wp_region_lit (mv 2 (vFa) (wpList_nil (ja (wp_seq ?_)))))
  refine jr ?_
  intro OPS hY
  have y2 := hY 2 5 rfl
  clear hY
  refine mv 3 (pK p 0) (sv 4 (vTr) (vI 25 _ _ _ rfl _ rfl rfl Try.underlying25 _) (mv 5 (vTr) ?_))
  refine nr ?_; intro U h; simp only [z0, z1] at h; subst h
  refine jn 6 rfl rfl y2 rfl (pK p 0) (rfl) (jn 7 rfl rfl y2 rfl (pK p 0) (jl _ rfl _ rfl) (jn 8 rfl rfl y2 rfl (pK p 16) (jc 98 _ 1 rfl _ _ rfl _) (jn 9 rfl rfl y2 rfl (.bool up) (je 4 _ rfl p 16 rfl 98 _ kp (na4 _) _ rfl) ?_)))
  refine nr ?_; intro U h; simp only [z0, z1] at h; subst h
  refine mv 10 (.bool up) (mv 2 (.bool up) (wpList_nil (ja (wp_ret ?_))))
  refine bodyPost_ret (results_tmp Try.results28 _ _ _) rfl ?_
  exact ⟨rfl, GG⟩
theorem uA (w : World) (p wp B : Nat) (id : Nat → Nat) (up : Bool) (mi mn pi pn : Int) (oth : Nat → Nat) (ro : Option Addr) (rc : Nat) (q : List RV) (k c : Nat) (H : EW w p wp B id up false mi mn pi pn oth ro rc q k c) : Calls Try.prog 24 #[pK p 0] w fun e w' => e = .returned (.tuple #[.agg (c23 zF), vFa]) ∧ Gro w w' := by
  refine jT Try.func24 rfl Try.ntmps24 [pK p 0] [pK p 0, undef, undef, undef, undef, undef, undef, undef, undef, undef, undef, undef, undef, undef, undef, undef, undef, undef] rfl ?_
  have GG := Gro.refl w
  have kp := H.box
  have HW := H.win
  have hpl := jm kp
  refine wp_seq (wp_region_lit ?_)
  refine js 2 rfl rfl 23 rfl _ zv23 _ rfl ?_
  intro w1 g1 G eg1 kg1
  have bg1 := jh GG eg1
  have dpg1 := jf kp eg1
  replace kp := G.has kp
  replace HW := HW.gro G
  replace GG := GG.trans G
  clear G eg1
  refine mv 3 (vFa) (wpList_nil (ja (wp_seq (wp_seq ?_))))
  refine jr ?_
  intro OPS hY
  have y2 := hY 2 6 rfl
  clear hY
  refine mv 4 (pK p 0) (sv 5 (vFa) (ze 25 _ _ _ rfl _ rfl rfl Try.underlying25 _) ?_)
  refine nr ?_; intro U h; simp only [z0, z1] at h; subst h
  refine mv 6 (vFa) (jn 7 rfl rfl y2 rfl (pK p 0) (rfl) (jn 8 rfl rfl y2 rfl (pK p 0) (jl _ rfl _ rfl) (jn 9 rfl rfl y2 rfl (pK p 17) (jc 98 _ 2 rfl _ _ rfl _) ?_)))
  refine nr ?_; intro U h; simp only [z0, z1] at h; subst h
  refine jn 10 rfl rfl y2 rfl (vFa) (je 4 _ rfl p 17 rfl 98 _ kp (na4 _) _ rfl) (jn 11 rfl rfl y2 rfl (vTr) (jU _ _ rfl false rfl) (mv 12 (vTr) (wpList_nil (ja (wp_cond_true rfl (wp_seq (wp_region_lit (sv 13 (.agg (c23 zF)) (jA 23 _ rfl [] rfl _ (by kernel_rfl)) ?_))))))))
  refine nr ?_; intro U h; simp only [z0, z1] at h; subst h
  refine jo rfl rfl 23 _ _ rfl g1 0 rfl (.agg (c23 zF)) rfl 23 _ kg1 (c23 zF) rfl (by kernel_rfl) (nlB rfl) (by kernel_rfl) (c23 zF) (by kernel_rfl) ?_
  intro w3 St
  replace kp := St.has (by omega) kp
  replace HW := HW.stT (by decide) (by decide) (by decide) kg1 St
  replace GG := GG.store St bg1
  replace kg1 := St.new
  clear St
  refine mv 3 (vFa) (wpList_nil (ja (wp_ret (jL ?_))))
  refine bodyPost_ret (jI Try.results24 _ _ g1 23 _ (0, 0) _ rfl (vFa) rfl kg1 Try.underlying23 rfl (by kernel_rfl)) rfl ?_
  exact ⟨rfl, GG⟩
theorem yS (w : World) (p wp B : Nat) (id : Nat → Nat) (up : Bool) (mi mn pi pn : Int) (oth : Nat → Nat) (ro : Option Addr) (rc : Nat) (q : List RV) (k c : Nat) (H : EW w p wp B id up true mi mn pi pn oth ro rc q k c) : Calls Try.prog 24 #[pK p 0] w fun e w' => e = .returned (.tuple #[.agg (c23 oth), vTr]) ∧ Gro w w' := by
  refine jT Try.func24 rfl Try.ntmps24 [pK p 0] [pK p 0, undef, undef, undef, undef, undef, undef, undef, undef, undef, undef, undef, undef, undef, undef, undef, undef, undef] rfl ?_
  have GG := Gro.refl w
  have kp := H.box
  have HW := H.win
  have hpl := jm kp
  refine wp_seq (wp_region_lit ?_)
  refine js 2 rfl rfl 23 rfl _ zv23 _ rfl ?_
  intro w1 g1 G eg1 kg1
  have bg1 := jh GG eg1
  have dpg1 := jf kp eg1
  replace kp := G.has kp
  replace HW := HW.gro G
  replace GG := GG.trans G
  clear G eg1
  refine mv 3 (vFa) (wpList_nil (ja (wp_seq (wp_seq ?_))))
  refine jr ?_
  intro OPS hY
  have y2 := hY 2 6 rfl
  clear hY
  refine mv 4 (pK p 0) (sv 5 (vFa) (ze 25 _ _ _ rfl _ rfl rfl Try.underlying25 _) ?_)
  refine nr ?_; intro U h; simp only [z0, z1] at h; subst h
  refine mv 6 (vFa) (jn 7 rfl rfl y2 rfl (pK p 0) (rfl) (jn 8 rfl rfl y2 rfl (pK p 0) (jl _ rfl _ rfl) (jn 9 rfl rfl y2 rfl (pK p 17) (jc 98 _ 2 rfl _ _ rfl _) ?_)))
  refine nr ?_; intro U h; simp only [z0, z1] at h; subst h
  refine jn 10 rfl rfl y2 rfl (vTr) (je 4 _ rfl p 17 rfl 98 _ kp (na4 _) _ rfl) (jn 11 rfl rfl y2 rfl (vFa) (jU _ _ rfl true rfl) (mv 12 (vFa) (wpList_nil (ja (wp_cond_false rfl (wp_skip (ja (wp_seq (wp_region_lit (mv 14 (pK p 0) ?_))))))))))
  refine nr ?_; intro U h; simp only [z0, z1] at h; subst h
  refine sv 15 (pK p 0) (jl _ rfl _ rfl) (sv 16 (pK p 22) (jc 98 _ 5 rfl _ _ rfl _) (sv 17 (.agg (c23 oth)) (jk 23 _ rfl p 22 16 rfl 98 _ kp _ Try.underlying23 rfl si23 _) ?_))
  refine jo rfl rfl 23 _ _ rfl g1 0 rfl (.agg (c23 oth)) rfl 23 _ kg1 (c23 oth) rfl (by kernel_rfl) (nlB rfl) (by kernel_rfl) (c23 oth) (by kernel_rfl) ?_
  intro w3 St
  replace kp := St.has (by omega) kp
  replace HW := HW.stT (by decide) (by decide) (by decide) kg1 St
  replace GG := GG.store St bg1
  replace kg1 := St.new
  clear St
  refine mv 3 (vTr) ?_
  refine nr ?_; intro U h; simp only [z0, z1] at h; subst h
  refine wpList_nil (ja (wp_ret ?_))
  refine bodyPost_ret (jI Try.results24 _ _ g1 23 _ (0, 0) _ rfl (vTr) rfl kg1 Try.underlying23 rfl (by kernel_rfl)) rfl ?_
  exact ⟨rfl, GG⟩
theorem ZM (w : World) (p wp B : Nat) (id : Nat → Nat) (up op : Bool) (mi mn pi pn : Int) (oth : Nat → Nat) (ro : Option Addr) (rc : Nat) (q : List RV) (k c : Nat) (H : EW w p wp B id up op mi mn pi pn oth ro rc q k c) : Calls Try.prog 23 #[pK p 0] w fun e w' => e = .returned (.tuple #[.agg (c29 mi mn), .agg (c29 pi pn)]) ∧ Gro w w' := by
  refine jT Try.func23 rfl Try.ntmps23 [pK p 0] [pK p 0, undef, undef, undef, undef, undef, undef, undef, undef, undef, undef, undef, undef, undef, undef, undef] rfl ?_
  have GG := Gro.refl w
  have kp := H.box
  have HW := H.win
  have hpl := jm kp
  refine wp_seq (wp_region_lit ?_)
  refine js 2 rfl rfl 29 rfl _ zv29 _ rfl ?_
  intro w1 g1 G eg1 kg1
  have bg1 := jh GG eg1
  have dpg1 := jf kp eg1
  replace kp := G.has kp
  replace HW := HW.gro G
  replace GG := GG.trans G
  clear G eg1
  refine js 3 rfl rfl 29 rfl _ zv29 _ rfl ?_
  intro w2 g2 G eg2 kg2
  have bg2 := jh GG eg2
  have dpg2 := jf kp eg2
  have dg1g2 := jf kg1 eg2
  replace kp := G.has kp
  replace kg1 := G.has kg1
  replace HW := HW.gro G
  replace GG := GG.trans G
  clear G eg2
  refine wpList_nil (ja (wp_seq (wp_seq (wp_region_lit (mv 4 (pK p 0) (sv 5 (vFa) (ze 25 _ _ _ rfl _ rfl rfl Try.underlying25 _) ?_))))))
  refine nr ?_; intro U h; simp only [z0, z1] at h; subst h
  refine wpList_nil (ja (wp_cond_false rfl (wp_skip (ja (wp_seq ?_)))))
  refine jJ (A := ?Ap1) (fun L x => Gro w x ∧ x.heap[p]? = some (.cells (c98 id up op mi mn pi pn oth (some ⟨wp, 0, none⟩)) 98 (0, 0)) ∧ x.heap[g1]? = some (.cells (cond (L 8) (c29 mi mn) (c29 0 0)) 29 (0, 0)) ∧ x.heap[g2]? = some (.cells (c29 0 0) 29 (0, 0)) ∧ WX 121 (c121 ((k + q.length : Nat) : Int) ⟨ro, q.length, rc⟩ ((c : Nat) : Int)) x wp B ro rc q) 9 [(0, 8), (1, 9), (2, 10), (3, 11), (4, 12), (5, 13), (6, 14), (7, 15)] [.val (pK p 0), .val (pK p 0), .val (pK p 18), .val (.agg (c29 mi mn)), .val (pK p 0), .val (pK p 0), .val (pK p 20), .val (.agg (c29 pi pn)), .val undef] [] [] follows (by kernel_rfl) rfl (by kernel_rfl) (by decide) ⟨GG.drew, (Gro.refl _).drew.has kp, (Gro.refl _).drew.has kg1, (Gro.refl _).drew.has kg2, HW.gro (Gro.refl _).drew⟩ ?hAp1 (ji (fun _ _ _ h _ G => ⟨h.1.trans G, G.has h.2.1, G.has h.2.2.1, G.has h.2.2.2.1, h.2.2.2.2.gro G⟩) ?o0p1 (ji (fun _ _ _ h _ G => ⟨h.1.trans G, G.has h.2.1, G.has h.2.2.1, G.has h.2.2.2.1, h.2.2.2.2.gro G⟩) ?o1p1 (ji (fun _ _ _ h _ G => ⟨h.1.trans G, G.has h.2.1, G.has h.2.2.1, G.has h.2.2.2.1, h.2.2.2.2.gro G⟩) ?o2p1 (ji (fun _ _ _ h _ G => ⟨h.1.trans G, G.has h.2.1, G.has h.2.2.1, G.has h.2.2.2.1, h.2.2.2.2.gro G⟩) ?o3p1 (ji (fun _ _ _ h _ G => ⟨h.1.trans G, G.has h.2.1, G.has h.2.2.1, G.has h.2.2.2.1, h.2.2.2.2.gro G⟩) ?o4p1 (ji (fun _ _ _ h _ G => ⟨h.1.trans G, G.has h.2.1, G.has h.2.2.1, G.has h.2.2.2.1, h.2.2.2.2.gro G⟩) ?o5p1 (ji (fun _ _ _ h _ G => ⟨h.1.trans G, G.has h.2.1, G.has h.2.2.1, G.has h.2.2.2.1, h.2.2.2.2.gro G⟩) ?o6p1 (ji (fun _ _ _ h _ G => ⟨h.1.trans G, G.has h.2.1, G.has h.2.2.1, G.has h.2.2.2.1, h.2.2.2.2.gro G⟩) ?o7p1 (jX ?o8p1 zc))))))))) ?restp1
  case hAp1 =>
    intro ptrs
    simp only [full, foldSlots, filledE, postE, List.foldl_cons, List.foldl_nil, List.getD_cons_zero, List.getD_cons_succ, ju,  List.set_cons_zero, List.set_cons_succ]
    exact rfl
  case o0p1 => exact fun _ _ _ _ _ _ _ _ => jj (v := pK p 0) _ rfl rfl rfl
  case o1p1 => exact fun _ _ x hx _ _ _ _ => jb (v := pK p 0) rfl (jl _ rfl _ rfl)
  case o2p1 => exact fun _ _ x hx _ _ _ _ => jb (v := pK p 18) rfl (jc 98 _ 3 rfl _ _ rfl _)
  case o3p1 => exact fun _ _ x hx _ _ _ _ => jb (v := .agg (c29 mi mn)) rfl (jk 29 _ rfl p 18 2 rfl 98 _ hx.2.1 _ Try.underlying29 rfl si29 _)
  case o4p1 => exact fun _ _ _ _ _ _ _ _ => jj (v := pK p 0) _ rfl rfl rfl
  case o5p1 => exact fun _ _ x hx _ _ _ _ => jb (v := pK p 0) rfl (jl _ rfl _ rfl)
  case o6p1 => exact fun _ _ x hx _ _ _ _ => jb (v := pK p 20) rfl (jc 98 _ 4 rfl _ _ rfl _)
  case o7p1 => exact fun _ _ x hx _ _ _ _ => jb (v := .agg (c29 pi pn)) rfl (jk 29 _ rfl p 20 2 rfl 98 _ hx.2.1 _ Try.underlying29 rfl si29 _)
  case o8p1 =>
    intro L ptrs x hx hL hed hno _
    have hk := hx.2.2.1
    rw [hL] at hk
    replace hk : x.heap[g1]? = some (.cells (c29 0 0) 29 (0, 0)) := hk
    refine zb _ rfl 29 _ _ rfl g1 0 rfl (.agg (c29 mi mn)) rfl 29 _ hk (c29 mi mn) rfl (by kernel_rfl) (nlB rfl) (by kernel_rfl) (c29 mi mn) (by kernel_rfl) ?_
    intro y St
    exact ⟨⟨⟨hx.1.store St bg1, St.has (by omega) hx.2.1, St.new, St.has (by omega) hx.2.2.2.1, hx.2.2.2.2.stT (by decide) (by decide) (by decide) hk St⟩, StM.vals [0, 1, 2, 3, 4, 5, 6, 7] (by kernel_rfl) ⟨⟨_, rfl⟩, ⟨_, rfl⟩, ⟨_, rfl⟩, ⟨_, rfl⟩, ⟨_, rfl⟩, ⟨_, rfl⟩, ⟨_, rfl⟩, ⟨_, rfl⟩, trivial⟩⟩, rfl⟩
  intro ptrs w3 HJ _
  simp only [List.drop_succ_cons, List.drop_zero]
  clear GG kp kg1 kg2 HW
  obtain ⟨GG, kp, kg1, kg2, HW⟩ := HJ
  replace kg1 : w3.heap[g1]? = some (.cells (c29 mi mn) 29 (0, 0)) := kg1
  refine jo rfl rfl 29 _ _ rfl g2 0 rfl (.agg (c29 pi pn)) rfl 29 _ kg2 (c29 pi pn) rfl (by kernel_rfl) (nlB rfl) (by kernel_rfl) (c29 pi pn) (by kernel_rfl) ?_
  intro w5 St
  replace kp := St.has (by omega) kp
  replace kg1 := St.has (by omega) kg1
  replace HW := HW.stT (by decide) (by decide) (by decide) kg2 St
  replace GG := GG.store St bg2
  replace kg2 := St.new
  clear St
  refine wpList_nil (ja (wp_ret ?_))
  refine bodyPost_ret (uy Try.results23 _ _ g1 g2 29 29 _ _ _ _ rfl rfl kg1 kg2 Try.underlying29 rfl (by kernel_rfl) Try.underlying29 rfl (by kernel_rfl)) rfl ?_
  exact ⟨rfl, GG⟩
theorem Jz (w : World) (p wp B : Nat) (id : Nat → Nat) (up : Bool) (mi mn pi pn : Int) (oth : Nat → Nat) (ro : Option Addr) (rc : Nat) (q : List RV) (k c : Nat) (H : EW w p wp B id up true mi mn pi pn oth ro rc q k c) : Calls Try.prog 56 #[pK p 0] w fun e w' => e = .returned (vFa) ∧ GroS [p] w w' ∧ EW w' p wp B id up true mi mn pi pn oth ro rc q k c := by
  refine jT Try.func56 rfl Try.ntmps56 [pK p 0] [pK p 0, undef, undef, undef, undef, undef, undef, undef, undef, undef, undef, undef, undef] rfl ?_
  have GG := GroS.refl [p] w
  have kp := H.box
  have HW := H.win
  have hpl := jm kp
  refine wp_seq (wp_region_lit (mv 2 (vFa) (wpList_nil (ja (wp_seq (wp_region_lit (mv 4 (pK p 0) (sv 5 (pK p 0) (jl _ rfl _ rfl) (sv 6 (pK p 17) (jc 98 _ 2 rfl _ _ rfl _) ?_)))))))))
  refine nr ?_; intro U h; simp only [z0, z1] at h; subst h
  refine sv 7 (vTr) (je 4 _ rfl p 17 rfl 98 _ kp (na4 _) _ rfl) (mv 3 (vTr) (wpList_nil (ja (wp_seq (wp_region_lit (mv 8 (pK p 0) (sv 9 (pK p 0) (jl _ rfl _ rfl) ?_)))))))
  refine nr ?_; intro U h; simp only [z0, z1] at h; subst h
  refine sv 10 (pK p 17) (jc 98 _ 2 rfl _ _ rfl _) ?_
  refine jo rfl rfl 4 _ _ rfl p 17 rfl (vTr) rfl 98 _ kp #[vTr] rfl (by kernel_rfl) (nlB rfl) (by kernel_rfl) (c98 id up true mi mn pi pn oth (some ⟨wp, 0, none⟩)) (by kernel_rfl) ?_
  intro w2 St
  replace HW := HW.stT (by decide) (by decide) (by decide) kp St
  replace GG := GG.st St (.inr (by simp))
  replace kp := St.new
  clear St
  refine wpList_nil (ja (wp_seq (wp_region_lit (mv 11 (vTr) (sv 12 (vFa) (jU _ _ rfl true rfl) (mv 2 (vFa) ?_))))))
  refine nr ?_; intro U h; simp only [z0, z1] at h; subst h
  refine wpList_nil (ja (wp_ret ?_))
  refine bodyPost_ret (results_tmp Try.results56 _ _ _) rfl ?_
  exact ⟨rfl, GG, kp, HW⟩
theorem Jc (w : World) (p wp B : Nat) (id : Nat → Nat) (up : Bool) (mi mn pi pn : Int) (oth : Nat → Nat) (ro : Option Addr) (rc : Nat) (q : List RV) (k c : Nat) (H : EW w p wp B id up false mi mn pi pn oth ro rc q k c) : Calls Try.prog 56 #[pK p 0] w fun e w' => e = .returned (vTr) ∧ GroS [p] w w' ∧ EW w' p wp B id up true mi mn pi pn oth ro rc q k c := by
  refine jT Try.func56 rfl Try.ntmps56 [pK p 0] [pK p 0, undef, undef, undef, undef, undef, undef, undef, undef, undef, undef, undef, undef] rfl ?_
  have GG := GroS.refl [p] w
  have kp := H.box
  have HW := H.win
  have hpl := jm kp
  refine wp_seq (wp_region_lit (mv 2 (vFa) (wpList_nil (ja (wp_seq (wp_region_lit (mv 4 (pK p 0) (sv 5 (pK p 0) (jl _ rfl _ rfl) (sv 6 (pK p 17) (jc 98 _ 2 rfl _ _ rfl _) ?_)))))))))
  refine nr ?_; intro U h; simp only [z0, z1] at h; subst h
  refine sv 7 (vFa) (je 4 _ rfl p 17 rfl 98 _ kp (na4 _) _ rfl) (mv 3 (vFa) (wpList_nil (ja (wp_seq (wp_region_lit (mv 8 (pK p 0) (sv 9 (pK p 0) (jl _ rfl _ rfl) ?_)))))))
  refine nr ?_; intro U h; simp only [z0, z1] at h; subst h
  refine sv 10 (pK p 17) (jc 98 _ 2 rfl _ _ rfl _) ?_
  refine jo rfl rfl 4 _ _ rfl p 17 rfl (vTr) rfl 98 _ kp #[vTr] rfl (by kernel_rfl) (nlB rfl) (by kernel_rfl) (c98 id up true mi mn pi pn oth (some ⟨wp, 0, none⟩)) (by kernel_rfl) ?_
  intro w2 St
  replace HW := HW.stT (by decide) (by decide) (by decide) kp St
  replace GG := GG.st St (.inr (by simp))
  replace kp := St.new
  clear St
  refine wpList_nil (ja (wp_seq (wp_region_lit (mv 11 (vFa) (sv 12 (vTr) (jU _ _ rfl false rfl) (mv 2 (vTr) ?_))))))
  refine nr ?_; intro U h; simp only [z0, z1] at h; subst h
  refine wpList_nil (ja (wp_ret ?_))
  refine bodyPost_ret (results_tmp Try.results56 _ _ _) rfl ?_
  exact ⟨rfl, GG, kp, HW⟩
theorem zC (w : World) (p wp B : Nat) (id : Nat → Nat) (up op : Bool) (mi mn pi pn : Int) (oth : Nat → Nat) (ro : Option Addr) (rc : Nat) (q : List RV) (k c : Nat) (H : EW w p wp B id up op mi mn pi pn oth ro rc q k c) : Calls Try.prog 56 #[pK p 0] w fun e w' => e = .returned (.bool (!op)) ∧ GroS [p] w w' ∧ EW w' p wp B id up true mi mn pi pn oth ro rc q k c := by
  cases op
  · exact Jc w p wp B id up mi mn pi pn oth ro rc q k c H
  · exact Jz w p wp B id up mi mn pi pn oth ro rc q k c H
theorem JO (w : World) (p wp B : Nat) (id : Nat → Nat) (up op : Bool) (mi mn pi pn : Int) (oth : Nat → Nat) (ro : Option Addr) (rc : Nat) (q : List RV) (k c : Nat) (H : EW w p wp B id up op mi mn pi pn oth ro rc q k c) (fi fn ti tn : Int) (h : (decide (fi = pi) && decide (fn = pn)) = false) : Calls Try.prog 58 #[pK p 0, .agg (c29 fi fn), .agg (c29 ti tn)] w fun e w' => e = .returned (vFa) ∧ Gro w w' := by
  refine jq Try.func58 rfl Try.ntmps58 [pK p 0, .agg (c29 fi fn), .agg (c29 ti tn)] ?_
  intro U h; simp only [List.length_cons, List.length_nil, List.cons_append, List.nil_append, Nat.reduceAdd, Nat.reduceSub, List.reduceReplicate] at h; subst h
  have GG := Gro.refl w
  have kp := H.box
  have HW := H.win
  have hpl := jm kp
  refine wp_seq (wp_region_lit ?_)
  refine jE 4 rfl rfl 29 _ rfl _ rfl (c29 fi fn) rfl ?_
  intro w1 g1 G eg1 kg1
  have bg1 := jh GG eg1
  have dpg1 := jf kp eg1
  replace kp := G.has kp
  replace HW := HW.gro G
  replace GG := GG.trans G
  clear G eg1
  refine jE 5 rfl rfl 29 _ rfl _ rfl (c29 ti tn) rfl ?_
  intro w2 g2 G eg2 kg2
  have bg2 := jh GG eg2
  have dpg2 := jf kp eg2
  have dg1g2 := jf kg1 eg2
  replace kp := G.has kp
  replace kg1 := G.has kg1
  replace HW := HW.gro G
  replace GG := GG.trans G
  clear G eg2
  refine mv 6 (vFa) (wpList_nil (ja (wp_seq ?_)))
  refine jw (A := ?Ax2) 12 [(0, 7), (1, 8), (2, 9), (3, 10), (4, 11), (5, 12), (6, 13), (7, 14), (8, 15), (9, 16), (10, 17), (11, 18)] [.val (.agg (c29 fi fn)), .val (pK p 0), .val (pK p 0), .val (pK p 20), .val (.agg (c29 pi pn)), .val (vFa), .val (vFa), .val undef, .val undef, .val undef, .val undef, .val undef] follows (by kernel_rfl) rfl ?hAx2 (jd ?o0x2 (jd ?o1x2 (jd ?o2x2 (jd ?o3x2 (jd ?o4x2 (jd ?o5x2 (jd ?o6x2 (jd ?o7x2 (jd ?o8x2 (jd ?o9x2 (jd ?o10x2 (jd ?o11x2 jM)))))))))))) ?restx2
  case hAx2 =>
    intro ptrs
    simp only [full, foldSlots, filledE, postE, List.foldl_cons, List.foldl_nil, List.getD_cons_zero, List.getD_cons_succ, ju, List.set_cons_zero, List.set_cons_succ]
    exact rfl
  case o0x2 => exact fun _ _ hw _ => jb (v := .agg (c29 fi fn)) rfl (jk 29 _ rfl g1 0 2 rfl 29 _ (hw.has kg1) _ Try.underlying29 rfl si29 _)
  case o1x2 => exact fun _ _ _ _ => jj (v := pK p 0) _ rfl rfl rfl
  case o2x2 => exact fun _ _ hw _ => jb (v := pK p 0) rfl (jl _ rfl _ rfl)
  case o3x2 => exact fun _ _ hw _ => jb (v := pK p 20) rfl (jc 98 _ 4 rfl _ _ rfl _)
  case o4x2 => exact fun _ _ hw _ => jb (v := .agg (c29 pi pn)) rfl (jk 29 _ rfl p 20 2 rfl 98 _ (hw.has kp) _ Try.underlying29 rfl si29 _)
  case o5x2 => exact fun _ _ hw _ => jb (v := vFa) rfl (jW _ _ _ rfl fi fn pi pn rfl rfl false (h) _)
  case o6x2 => exact fun _ _ _ _ => jj (v := vFa) _ rfl rfl rfl
  case o7x2 => exact fun _ _ _ _ => yy rfl
  case o8x2 => exact fun _ _ _ _ => yy rfl
  case o9x2 => exact fun _ _ _ _ => yy rfl
  case o10x2 => exact fun _ _ _ _ => yy rfl
  case o11x2 => exact fun _ _ _ _ => yy rfl
  intro ptrs w3 GD hxE
  simp only [List.drop_succ_cons, List.drop_zero]
  replace kp := GD.has kp
  replace kg1 := GD.has kg1
  replace kg2 := GD.has kg2
  replace HW := HW.gro ((Gro.refl _).drew.trans GD)
  replace GG := GG.drew.trans GD
  clear GD
  refine ZC 19 rfl rfl ?_
  refine nr ?_; intro U h; simp only [z0, z1] at h; subst h
  refine mv 20 (vFa) (mv 6 (vFa) (wpList_nil (ja (wp_ret ?_))))
  refine bodyPost_ret (results_tmp Try.results58 _ _ _) rfl ?_
  exact ⟨rfl, GG⟩
theorem uQ (w : World) (p wp B : Nat) (id : Nat → Nat) (up op : Bool) (mi mn pi pn : Int) (oth : Nat → Nat) (ro : Option Addr) (rc : Nat) (q : List RV) (k c : Nat) (H : EW w p wp B id up op mi mn pi pn oth ro rc q k c) (fi fn ti tn : Int) (h : (decide (fi = pi) && decide (fn = pn)) = true) (h2 : (decide (ti = mi) && decide (tn = mn)) = true) : Calls Try.prog 58 #[pK p 0, .agg (c29 fi fn), .agg (c29 ti tn)] w fun e w' => e = .returned (vTr) ∧ Gro w w' := by
  refine jq Try.func58 rfl Try.ntmps58 [pK p 0, .agg (c29 fi fn), .agg (c29 ti tn)] ?_
  intro U h; simp only [List.length_cons, List.length_nil, List.cons_append, List.nil_append, Nat.reduceAdd, Nat.reduceSub, List.reduceReplicate] at h; subst h
  have GG := Gro.refl w
  have kp := H.box
  have HW := H.win
  have hpl := jm kp
  refine wp_seq (wp_region_lit ?_)
  refine jE 4 rfl rfl 29 _ rfl _ rfl (c29 fi fn) rfl ?_
  intro w1 g1 G eg1 kg1
  have bg1 := jh GG eg1
  have dpg1 := jf kp eg1
  replace kp := G.has kp
  replace HW := HW.gro G
  replace GG := GG.trans G
  clear G eg1
  refine jE 5 rfl rfl 29 _ rfl _ rfl (c29 ti tn) rfl ?_
  intro w2 g2 G eg2 kg2
  have bg2 := jh GG eg2
  have dpg2 := jf kp eg2
  have dg1g2 := jf kg1 eg2
  replace kp := G.has kp
  replace kg1 := G.has kg1
  replace HW := HW.gro G
  replace GG := GG.trans G
  clear G eg2
  refine mv 6 (vFa) (wpList_nil (ja (wp_seq ?_)))
  refine jw (A := ?Ax3) 12 [(0, 7), (1, 8), (2, 9), (3, 10), (4, 11), (5, 12), (6, 13), (7, 14), (8, 15), (9, 16), (10, 17), (11, 18)] [.val (.agg (c29 fi fn)), .val (pK p 0), .val (pK p 0), .val (pK p 20), .val (.agg (c29 pi pn)), .val (vTr), .val (vTr), .val (.agg (c29 ti tn)), .val (pK p 0), .val (pK p 0), .val (pK p 18), .val (.agg (c29 mi mn))] follows (by kernel_rfl) rfl ?hAx3 (jd ?o0x3 (jd ?o1x3 (jd ?o2x3 (jd ?o3x3 (jd ?o4x3 (jd ?o5x3 (jd ?o6x3 (jd ?o7x3 (jd ?o8x3 (jd ?o9x3 (jd ?o10x3 (jd ?o11x3 jM)))))))))))) ?restx3
  case hAx3 =>
    intro ptrs
    simp only [full, foldSlots, filledE, postE, List.foldl_cons, List.foldl_nil, List.getD_cons_zero, List.getD_cons_succ, ju, List.set_cons_zero, List.set_cons_succ]
    exact rfl
  case o0x3 => exact fun _ _ hw _ => jb (v := .agg (c29 fi fn)) rfl (jk 29 _ rfl g1 0 2 rfl 29 _ (hw.has kg1) _ Try.underlying29 rfl si29 _)
  case o1x3 => exact fun _ _ _ _ => jj (v := pK p 0) _ rfl rfl rfl
  case o2x3 => exact fun _ _ hw _ => jb (v := pK p 0) rfl (jl _ rfl _ rfl)
  case o3x3 => exact fun _ _ hw _ => jb (v := pK p 20) rfl (jc 98 _ 4 rfl _ _ rfl _)
  case o4x3 => exact fun _ _ hw _ => jb (v := .agg (c29 pi pn)) rfl (jk 29 _ rfl p 20 2 rfl 98 _ (hw.has kp) _ Try.underlying29 rfl si29 _)
  case o5x3 => exact fun _ _ hw _ => jb (v := vTr) rfl (jW _ _ _ rfl fi fn pi pn rfl rfl true (h) _)
  case o6x3 => exact fun _ _ _ _ => jj (v := vTr) _ rfl rfl rfl
  case o7x3 => exact fun _ _ hw _ => jb (v := .agg (c29 ti tn)) rfl (jk 29 _ rfl g2 0 2 rfl 29 _ (hw.has kg2) _ Try.underlying29 rfl si29 _)
  case o8x3 => exact fun _ _ _ _ => jj (v := pK p 0) _ rfl rfl rfl
  case o9x3 => exact fun _ _ hw _ => jb (v := pK p 0) rfl (jl _ rfl _ rfl)
  case o10x3 => exact fun _ _ hw _ => jb (v := pK p 18) rfl (jc 98 _ 3 rfl _ _ rfl _)
  case o11x3 => exact fun _ _ hw _ => jb (v := .agg (c29 mi mn)) rfl (jk 29 _ rfl p 18 2 rfl 98 _ (hw.has kp) _ Try.underlying29 rfl si29 _)
  intro ptrs w3 GD hxE
  simp only [List.drop_succ_cons, List.drop_zero]
  replace kp := GD.has kp
  replace kg1 := GD.has kg1
  replace kg2 := GD.has kg2
  replace HW := HW.gro ((Gro.refl _).drew.trans GD)
  replace GG := GG.drew.trans GD
  clear GD
  refine Jw 19 rfl rfl (vTr) (jW _ _ _ rfl ti tn mi mn rfl rfl true (h2) _) ?_
  refine nr ?_; intro U h; simp only [z0, z1] at h; subst h
  refine mv 20 (vTr) (mv 6 (vTr) (wpList_nil (ja (wp_ret ?_))))
  refine bodyPost_ret (results_tmp Try.results58 _ _ _) rfl ?_
  exact ⟨rfl, GG⟩
theorem uf (w : World) (p wp B : Nat) (id : Nat → Nat) (up op : Bool) (mi mn pi pn : Int) (oth : Nat → Nat) (ro : Option Addr) (rc : Nat) (q : List RV) (k c : Nat) (H : EW w p wp B id up op mi mn pi pn oth ro rc q k c) (fi fn ti tn : Int) (h : (decide (fi = pi) && decide (fn = pn)) = true) (h2 : (decide (ti = mi) && decide (tn = mn)) = false) : Calls Try.prog 58 #[pK p 0, .agg (c29 fi fn), .agg (c29 ti tn)] w fun e w' => e = .returned (vFa) ∧ Gro w w' := by
  refine jq Try.func58 rfl Try.ntmps58 [pK p 0, .agg (c29 fi fn), .agg (c29 ti tn)] ?_
  intro U h; simp only [List.length_cons, List.length_nil, List.cons_append, List.nil_append, Nat.reduceAdd, Nat.reduceSub, List.reduceReplicate] at h; subst h
  have GG := Gro.refl w
  have kp := H.box
  have HW := H.win
  have hpl := jm kp
  refine wp_seq (wp_region_lit ?_)
  refine jE 4 rfl rfl 29 _ rfl _ rfl (c29 fi fn) rfl ?_
  intro w1 g1 G eg1 kg1
  have bg1 := jh GG eg1
  have dpg1 := jf kp eg1
  replace kp := G.has kp
  replace HW := HW.gro G
  replace GG := GG.trans G
  clear G eg1
  refine jE 5 rfl rfl 29 _ rfl _ rfl (c29 ti tn) rfl ?_
  intro w2 g2 G eg2 kg2
  have bg2 := jh GG eg2
  have dpg2 := jf kp eg2
  have dg1g2 := jf kg1 eg2
  replace kp := G.has kp
  replace kg1 := G.has kg1
  replace HW := HW.gro G
  replace GG := GG.trans G
  clear G eg2
  refine mv 6 (vFa) (wpList_nil (ja (wp_seq ?_)))
  refine jw (A := ?Ax4) 12 [(0, 7), (1, 8), (2, 9), (3, 10), (4, 11), (5, 12), (6, 13), (7, 14), (8, 15), (9, 16), (10, 17), (11, 18)] [.val (.agg (c29 fi fn)), .val (pK p 0), .val (pK p 0), .val (pK p 20), .val (.agg (c29 pi pn)), .val (vTr), .val (vTr), .val (.agg (c29 ti tn)), .val (pK p 0), .val (pK p 0), .val (pK p 18), .val (.agg (c29 mi mn))] follows (by kernel_rfl) rfl ?hAx4 (jd ?o0x4 (jd ?o1x4 (jd ?o2x4 (jd ?o3x4 (jd ?o4x4 (jd ?o5x4 (jd ?o6x4 (jd ?o7x4 (jd ?o8x4 (jd ?o9x4 (jd ?o10x4 (jd ?o11x4 jM)))))))))))) ?restx4
  case hAx4 =>
    intro ptrs
    simp only [full, foldSlots, filledE, postE, List.foldl_cons, List.foldl_nil, List.getD_cons_zero, List.getD_cons_succ, ju, List.set_cons_zero, List.set_cons_succ]
    exact rfl
  case o0x4 => exact fun _ _ hw _ => jb (v := .agg (c29 fi fn)) rfl (jk 29 _ rfl g1 0 2 rfl 29 _ (hw.has kg1) _ Try.underlying29 rfl si29 _)
  case o1x4 => exact fun _ _ _ _ => jj (v := pK p 0) _ rfl rfl rfl
  case o2x4 => exact fun _ _ hw _ => jb (v := pK p 0) rfl (jl _ rfl _ rfl)
  case o3x4 => exact fun _ _ hw _ => jb (v := pK p 20) rfl (jc 98 _ 4 rfl _ _ rfl _)
  case o4x4 => exact fun _ _ hw _ => jb (v := .agg (c29 pi pn)) rfl (jk 29 _ rfl p 20 2 rfl 98 _ (hw.has kp) _ Try.underlying29 rfl si29 _)
  case o5x4 => exact fun _ _ hw _ => jb (v := vTr) rfl (jW _ _ _ rfl fi fn pi pn rfl rfl true (h) _)
  case o6x4 => exact fun _ _ _ _ => jj (v := vTr) _ rfl rfl rfl
  case o7x4 => exact fun _ _ hw _ => jb (v := .agg (c29 ti tn)) rfl (jk 29 _ rfl g2 0 2 rfl 29 _ (hw.has kg2) _ Try.underlying29 rfl si29 _)
  case o8x4 => exact fun _ _ _ _ => jj (v := pK p 0) _ rfl rfl rfl
  case o9x4 => exact fun _ _ hw _ => jb (v := pK p 0) rfl (jl _ rfl _ rfl)
  case o10x4 => exact fun _ _ hw _ => jb (v := pK p 18) rfl (jc 98 _ 3 rfl _ _ rfl _)
  case o11x4 => exact fun _ _ hw _ => jb (v := .agg (c29 mi mn)) rfl (jk 29 _ rfl p 18 2 rfl 98 _ (hw.has kp) _ Try.underlying29 rfl si29 _)
  intro ptrs w3 GD hxE
  simp only [List.drop_succ_cons, List.drop_zero]
  replace kp := GD.has kp
  replace kg1 := GD.has kg1
  replace kg2 := GD.has kg2
  replace HW := HW.gro ((Gro.refl _).drew.trans GD)
  replace GG := GG.drew.trans GD
  clear GD
  refine Jw 19 rfl rfl (vFa) (jW _ _ _ rfl ti tn mi mn rfl rfl false (h2) _) ?_
  refine nr ?_; intro U h; simp only [z0, z1] at h; subst h
  refine mv 20 (vFa) (mv 6 (vFa) (wpList_nil (ja (wp_ret ?_))))
  refine bodyPost_ret (results_tmp Try.results58 _ _ _) rfl ?_
  exact ⟨rfl, GG⟩
theorem zz (w : World) (p wp B : Nat) (id : Nat → Nat) (up op : Bool) (mi mn pi pn : Int) (oth : Nat → Nat) (ro : Option Addr) (rc : Nat) (q : List RV) (k c : Nat) (H : EW w p wp B id up op mi mn pi pn oth ro rc q k c) (fi fn ti tn : Int) : Calls Try.prog 58 #[pK p 0, .agg (c29 fi fn), .agg (c29 ti tn)] w fun e w' => e = .returned (.bool (decide ((fi = pi ∧ fn = pn) ∧ ti = mi ∧ tn = mn))) ∧ Gro w w' := by
  have e : decide ((fi = pi ∧ fn = pn) ∧ ti = mi ∧ tn = mn) = ((decide (fi = pi) && decide (fn = pn)) && (decide (ti = mi) && decide (tn = mn))) := by simp [Bool.decide_and]
  rw [e]
  cases h : (decide (fi = pi) && decide (fn = pn))
  · exact JO w p wp B id up op mi mn pi pn oth ro rc q k c H fi fn ti tn h
  · cases h2 : (decide (ti = mi) && decide (tn = mn))
    · exact uf w p wp B id up op mi mn pi pn oth ro rc q k c H fi fn ti tn h h2
    · exact uQ w p wp B id up op mi mn pi pn oth ro rc q k c H fi fn ti tn h h2
theorem zU (w : World) (a : Int) : Calls Try.prog 67 #[iK a] w fun e w' => e = .returned (vFa) ∧ Gro w w' := by
  refine jT Try.func67 rfl Try.ntmps67 [iK a] [iK a, undef, undef, undef, undef, undef] rfl ?_
  have GG := Gro.refl w
  refine wp_seq (wp_region_lit (mv 2 (vFa) (wpList_nil (ja (wp_seq (wp_region_lit (mv 3 (iK a) (mv 4 (iK a) (sv 5 (vFa) (zG 2 .i64 _ _ _ rfl Try.underlying2 a a rfl rfl false (decide_eq_true rfl) _) ?_)))))))))
  refine nr ?_; intro U h; simp only [z0, z1] at h; subst h
  refine mv 2 (vFa) (wpList_nil (ja (wp_ret ?_)))
  refine bodyPost_ret (results_tmp Try.results67 _ _ _) rfl ?_
  exact ⟨rfl, GG⟩
theorem JI (w : World) (a b : Int) (h : a < b) : Calls Try.prog 66 #[iK a, iK b] w fun e w' => e = .returned (iK (-1)) ∧ Gro w w' := by
  refine jq Try.func66 rfl Try.ntmps66 [iK a, iK b] ?_
  intro U h; simp only [List.length_cons, List.length_nil, List.cons_append, List.nil_append, Nat.reduceAdd, Nat.reduceSub, List.reduceReplicate] at h; subst h
  have GG := Gro.refl w
  refine wp_seq (wp_region_lit (mv 4 (iK 0) (wpList_nil (ja (wp_seq (wp_region_lit (mv 7 (iK a) ?_)))))))
  refine jC 8 rfl rfl _ 67 Try.call67 rfl rfl _ rfl [iK a] rfl (zU _ a) ?_
  intro w1 G
  replace GG := GG.trans G
  clear G
  refine mv 5 (vFa) ?_
  refine nr ?_; intro U h; simp only [z0, z1] at h; subst h
  refine wpList_nil (ja (wp_seq (wp_region_lit (mv 9 (iK b) ?_))))
  refine jC 10 rfl rfl _ 67 Try.call67 rfl rfl _ rfl [iK b] rfl (zU _ b) ?_
  intro w2 G
  replace GG := GG.trans G
  clear G
  refine mv 6 (vFa) (wpList_nil (ja (wp_seq (wp_seq (wp_region_lit (mv 11 (vFa) ?_))))))
  refine nr ?_; intro U h; simp only [z0, z1] at h; subst h
  refine wpList_nil (ja (wp_cond_false rfl (wp_skip (ja (wp_seq (wp_seq (wp_region_lit (mv 13 (vFa) (wpList_nil (ja (wp_cond_false rfl (wp_skip (ja (wp_seq (wp_seq ?_)))))))))))))))
  refine wp_region_lit (mv 14 (iK a) (mv 15 (iK b) (sv 16 (vTr) (jP 2 _ _ _ rfl a b rfl rfl true (by first | exact decide_eq_true (by omega) | exact decide_eq_false (by omega)) _) ?_)))
  refine nr ?_; intro U h; simp only [z0, z1] at h; subst h
  refine wpList_nil (ja (wp_cond_true rfl (wp_seq (wp_region_lit (mv 4 (iK (-1)) (wpList_nil (ja (wp_ret (jL ?_)))))))))
  refine bodyPost_ret (results_tmp Try.results66 _ _ _) rfl ?_
  exact ⟨rfl, GG⟩
theorem JJ (w : World) (a b : Int) (h : b < a) : Calls Try.prog 66 #[iK a, iK b] w fun e w' => e = .returned (iK (1)) ∧ Gro w w' := by
  refine jq Try.func66 rfl Try.ntmps66 [iK a, iK b] ?_
  intro U h; simp only [List.length_cons, List.length_nil, List.cons_append, List.nil_append, Nat.reduceAdd, Nat.reduceSub, List.reduceReplicate] at h; subst h
  have GG := Gro.refl w
  refine wp_seq (wp_region_lit (mv 4 (iK 0) (wpList_nil (ja (wp_seq (wp_region_lit (mv 7 (iK a) ?_)))))))
  refine jC 8 rfl rfl _ 67 Try.call67 rfl rfl _ rfl [iK a] rfl (zU _ a) ?_
  intro w1 G
  replace GG := GG.trans G
  clear G
  refine mv 5 (vFa) ?_
  refine nr ?_; intro U h; simp only [z0, z1] at h; subst h
  refine wpList_nil (ja (wp_seq (wp_region_lit (mv 9 (iK b) ?_))))
  refine jC 10 rfl rfl _ 67 Try.call67 rfl rfl _ rfl [iK b] rfl (zU _ b) ?_
  intro w2 G
  replace GG := GG.trans G
  clear G
  refine mv 6 (vFa) (wpList_nil (ja (wp_seq (wp_seq (wp_region_lit (mv 11 (vFa) ?_))))))
  refine nr ?_; intro U h; simp only [z0, z1] at h; subst h
  refine wpList_nil (ja (wp_cond_false rfl (wp_skip (ja (wp_seq (wp_seq (wp_region_lit (mv 13 (vFa) (wpList_nil (ja (wp_cond_false rfl (wp_skip (ja (wp_seq (wp_seq ?_)))))))))))))))
  refine wp_region_lit (mv 14 (iK a) (mv 15 (iK b) (sv 16 (vFa) (jP 2 _ _ _ rfl a b rfl rfl false (by first | exact decide_eq_true (by omega) | exact decide_eq_false (by omega)) _) ?_)))
  refine nr ?_; intro U h; simp only [z0, z1] at h; subst h
  refine wpList_nil (ja (wp_cond_false rfl (wp_skip (ja (wp_seq (wp_seq (wp_region_lit (mv 17 (iK a) (mv 18 (iK b) (sv 19 (vTr) (jD 2 _ _ _ rfl a b rfl rfl true (by first | exact decide_eq_true (by omega) | exact decide_eq_false (by omega)) _) (wpList_nil (ja (wp_cond_true rfl (wp_seq (wp_region_lit ?_)))))))))))))))
  refine mv 4 (iK 1) ?_
  refine nr ?_; intro U h; simp only [z0, z1] at h; subst h
  refine wpList_nil (ja (wp_ret (jL ?_)))
  refine bodyPost_ret (results_tmp Try.results66 _ _ _) rfl ?_
  exact ⟨rfl, GG⟩
theorem JK (w : World) (a b : Int) (h : a = b) : Calls Try.prog 66 #[iK a, iK b] w fun e w' => e = .returned (iK (0)) ∧ Gro w w' := by
  refine jq Try.func66 rfl Try.ntmps66 [iK a, iK b] ?_
  intro U h; simp only [List.length_cons, List.length_nil, List.cons_append, List.nil_append, Nat.reduceAdd, Nat.reduceSub, List.reduceReplicate] at h; subst h
  have GG := Gro.refl w
  refine wp_seq (wp_region_lit (mv 4 (iK 0) (wpList_nil (ja (wp_seq (wp_region_lit (mv 7 (iK a) ?_)))))))
  refine jC 8 rfl rfl _ 67 Try.call67 rfl rfl _ rfl [iK a] rfl (zU _ a) ?_
  intro w1 G
  replace GG := GG.trans G
  clear G
  refine mv 5 (vFa) ?_
  refine nr ?_; intro U h; simp only [z0, z1] at h; subst h
  refine wpList_nil (ja (wp_seq (wp_region_lit (mv 9 (iK b) ?_))))
  refine jC 10 rfl rfl _ 67 Try.call67 rfl rfl _ rfl [iK b] rfl (zU _ b) ?_
  intro w2 G
  replace GG := GG.trans G
  clear G
  refine mv 6 (vFa) (wpList_nil (ja (wp_seq (wp_seq (wp_region_lit (mv 11 (vFa) ?_))))))
  refine nr ?_; intro U h; simp only [z0, z1] at h; subst h
  refine wpList_nil (ja (wp_cond_false rfl (wp_skip (ja (wp_seq (wp_seq (wp_region_lit (mv 13 (vFa) (wpList_nil (ja (wp_cond_false rfl (wp_skip (ja (wp_seq (wp_seq ?_)))))))))))))))
  refine wp_region_lit (mv 14 (iK a) (mv 15 (iK b) (sv 16 (vFa) (jP 2 _ _ _ rfl a b rfl rfl false (by first | exact decide_eq_true (by omega) | exact decide_eq_false (by omega)) _) ?_)))
  refine nr ?_; intro U h; simp only [z0, z1] at h; subst h
  refine wpList_nil (ja (wp_cond_false rfl (wp_skip (ja (wp_seq (wp_seq (wp_region_lit (mv 17 (iK a) (mv 18 (iK b) (sv 19 (vFa) (jD 2 _ _ _ rfl a b rfl rfl false (by first | exact decide_eq_true (by omega) | exact decide_eq_false (by omega)) _) (wpList_nil (ja (wp_cond_false rfl (wp_skip (ja ?_)))))))))))))))
  refine wp_seq (wp_region_lit (mv 4 (iK 0) ?_))
  refine nr ?_; intro U h; simp only [z0, z1] at h; subst h
  refine wpList_nil (ja (wp_ret ?_))
  refine bodyPost_ret (results_tmp Try.results66 _ _ _) rfl ?_
  exact ⟨rfl, GG⟩
theorem yX (w : World) (a b : Int) : Calls Try.prog 66 #[iK a, iK b] w fun e w' => e = .returned (iK (cmpI a b)) ∧ Gro w w' := by
  unfold cmpI
  split
  · exact JI w a b ‹_›
  · split
    · exact JJ w a b ‹_›
    · exact JK w a b (by omega)
theorem ab_at (a b : Int) (j : Nat) (h : j < 2) : (#[Value.int .i64 a, Value.int .i64 b] : Array Value)[j]? = some (iK ([a, b].getD j 0)) := by
  rcases j with _ | _ | j
  · rfl
  · rfl
  · omega
theorem ZN (a b : Int) : (if a = 0 then b else a) = if [a, b].getD 0 0 = 0 then [a, b].getD 1 0 else [a, b].getD 0 0 := rfl
theorem or_any (w : World) (g : Nat) (a b : Int) (H : w.heap[g]? = some (.cells #[iK a, iK b] 3 (0, 0))) : Calls Try.prog 65 #[.slice (some ⟨g, 0, none⟩) 2 2] w fun e w' => e = .returned (iK (if a = 0 then b else a)) ∧ Gro w w' := by
  refine jT Try.func65 rfl Try.ntmps65 [.slice (some ⟨g, 0, none⟩) 2 2] [.slice (some ⟨g, 0, none⟩) 2 2, undef, undef, undef, undef, undef, undef, undef, undef, undef, undef, undef, undef, undef, undef, undef, undef, undef] rfl ?_
  have GG := Gro.refl w
  have kg := H
  refine wp_seq (wp_region_lit (mv 2 (iK 0) (wpList_nil (ja (wp_seq (wp_region_lit (mv 3 (iK 0) (wpList_nil (ja (wp_seq (wp_seq (wp_region_lit (mv 6 (.slice (some ⟨g, 0, none⟩) 2 2) (sv 7 (iK ((2 : Nat) : Int)) (jG Try.underlying39 _ rfl _ _ _ rfl _) ?_))))))))))))))
  refine nr ?_; intro U h; simp only [z0, z1] at h; subst h
  refine mv 8 (iK 0) (wpList_nil (ja (wp_block ?_)))
  refine zl (fun mz az wv => ∃ (j : Nat) (us1 : Nat → Value), mz = 2 - j ∧ az = ⟨[.slice (some ⟨g, 0, none⟩) 2 2, undef, us1 0, iK 0, undef, us1 1, .slice (some ⟨g, 0, none⟩) 2 2, iK ((2 : Nat) : Int), iK ((j : Nat) : Int), us1 2, us1 3, us1 4, us1 5, us1 6, us1 7, us1 8, us1 9, undef].toArray, []⟩ ∧ j ≤ 2 ∧ (∀ i, i < j → [a, b].getD i 0 = 0) ∧ Gro w wv ∧ wv.heap[g]? = some (.cells #[iK a, iK b] 3 (0, 0))) ?_ _ ⟨0, usB [2, 5, 9, 10, 11, 12, 13, 14, 15, 16] rfl rfl ⟨Nat.zero_le _, (fun i hi => absurd hi (by omega)), GG, kg⟩⟩
  clear kg GG
  rintro mz az wv ⟨j, us1, rfl, rfl, hj, hz, GG, kg⟩
  refine wp_seq (wp_region_lit ?_)
  obtain ⟨p1, hp1⟩ : ∃ p, decide (((j : Nat) : Int) < ((2 : Nat) : Int)) = p := ⟨_, rfl⟩
  refine sv 9 (.bool p1) (jP 3 _ _ _ rfl ((j : Nat) : Int) ((2 : Nat) : Int) rfl rfl p1 hp1 _) ?_
  refine nr ?_; intro U h; simp only [z0, z1] at h; subst h
  cases p1
  have hjn : j = 2 := by have := of_decide_eq_false hp1; omega
  refine wpList_nil (ja (wp_seq (wp_cond_false rfl (wp_exit (jZ (jZ (zZ (ja (wp_seq (wp_region_lit (mv 17 (iK 0) (mv 2 (iK 0) (wpList_nil (ja (wp_ret ?_)))))))))))))))
  refine bodyPost_ret (results_tmp Try.results65 _ _ _) rfl ?_
  refine ⟨?_, GG⟩
  rw [ZN]
  have h0 := hz 0 (by omega)
  have h1 := hz 1 (by omega)
  rw [if_pos h0, h1]
  rfl
  have hjn : j < 2 := by have := of_decide_eq_true hp1; omega
  refine wpList_nil (ja (wp_seq (wp_cond_true rfl (wp_skip (ja (wp_seq (wp_block (wp_seq (wp_region_lit (sv 10 (pK g j) ((ZH iT28 _ _ rfl ⟨g, 0, none⟩ 2 2 j rfl rfl hjn _).trans (by rw [zA, Nat.zero_add])) (sv 11 (iK ([a, b].getD j 0)) (je 3 _ rfl g j rfl 3 _ kg (na3 _) _ (ab_at a b j hjn)) ?_)))))))))))
  refine nr ?_; intro U h; simp only [z0, z1] at h; subst h
  refine mv 5 (iK ([a, b].getD j 0)) (wpList_nil (ja (wp_seq (wp_region_lit (mv 12 (iK ([a, b].getD j 0)) (mv 13 (iK 0) ?_))))))
  refine nr ?_; intro U h; simp only [z0, z1] at h; subst h
  obtain ⟨p2, hp2⟩ : ∃ p, (!decide ([a, b].getD j 0 = 0)) = p := ⟨_, rfl⟩
  refine sv 14 (.bool p2) (ZG 3 _ _ _ rfl Try.underlying3 ([a, b].getD j 0) 0 rfl rfl p2 hp2 _) ?_
  refine nr ?_; intro U h; simp only [z0, z1] at h; subst h
  cases p2
  have hne : [a, b].getD j 0 = 0 := by simpa using hp2
  refine wpList_nil (ja (wp_cond_false rfl (wp_skip (jQ (ja (wp_region_lit (sv 16 (iK ((j + 1 : Nat) : Int)) (jF 3 _ _ _ rfl ((j : Nat) : Int) 1 ((j + 1 : Nat) : Int) rfl rfl (by omega) (by omega) (by omega) _) (mv 8 (iK ((j + 1 : Nat) : Int)) (wpList_nil (ja ?_))))))))))
  refine ⟨_, (by omega : 2 - (j + 1) < 2 - j), j + 1, usB [2, 5, 9, 10, 11, 12, 13, 14, 15, 16] rfl rfl ⟨hjn, fun i hi => ?_, GG, kg⟩⟩
  rcases Nat.lt_or_eq_of_le (Nat.le_of_lt_succ hi) with h | rfl
  exact hz i h
  exact hne
  have hne : ¬ [a, b].getD j 0 = 0 := by simpa using hp2
  refine wpList_nil (ja (wp_cond_true rfl (wp_seq (wp_region_lit (mv 15 (iK ([a, b].getD j 0)) (mv 2 (iK ([a, b].getD j 0)) ?_))))))
  refine nr ?_; intro U h; simp only [z0, z1] at h; subst h
  refine wpList_nil (ja (wp_ret (zh (jL (jL (zh (jL ?_)))))))
  refine bodyPost_ret (results_tmp Try.results65 _ _ _) rfl ?_
  refine ⟨?_, GG⟩
  rw [ZN]
  rcases j with _ | _ | j
  rw [if_neg hne]; rfl
  rw [if_pos (hz 0 (by omega))]; rfl
  omega
theorem zo (w : World) (ai an bi bn : Int) : Calls Try.prog 55 #[.agg (c29 ai an), .agg (c29 bi bn)] w fun e w' => e = .returned (iK (cmpP ai an bi bn)) ∧ Gro w w' := by
  refine jT Try.func55 rfl Try.ntmps55 [.agg (c29 ai an), .agg (c29 bi bn)] [.agg (c29 ai an), .agg (c29 bi bn), undef, undef, undef, undef, undef, undef, undef, undef, undef, undef, undef, undef, undef, undef, undef] rfl ?_
  have GG := Gro.refl w
  refine wp_seq (wp_region_lit ?_)
  refine jE 2 rfl rfl 29 _ rfl _ rfl (c29 ai an) rfl ?_
  intro w1 g1 G eg1 kg1
  have bg1 := jh GG eg1
  replace GG := GG.trans G
  clear G eg1
  refine jE 3 rfl rfl 29 _ rfl _ rfl (c29 bi bn) rfl ?_
  intro w2 g2 G eg2 kg2
  have bg2 := jh GG eg2
  have dg1g2 := jf kg1 eg2
  replace kg1 := G.has kg1
  replace GG := GG.trans G
  clear G eg2
  refine mv 4 (iK 0) (wpList_nil (ja (wp_seq ?_)))
  refine jw (A := ?Ax5) 9 [(0, 5), (1, 6), (2, 7), (3, 8), (4, 9), (5, 10), (6, 11), (7, 12), (8, 13)] [.val (pK g1 0), .val (iK ai), .val (pK g2 0), .val (iK bi), .val (iK (cmpI ai bi)), .val (pK g1 1), .val (iK an), .val (pK g2 1), .val (iK bn)] follows (by kernel_rfl) rfl ?hAx5 (jd ?o0x5 (jd ?o1x5 (jd ?o2x5 (jd ?o3x5 (jd ?o4x5 (jd ?o5x5 (jd ?o6x5 (jd ?o7x5 (jd ?o8x5 jM))))))))) ?restx5
  case hAx5 =>
    intro ptrs
    simp only [full, foldSlots, filledE, postE, List.foldl_cons, List.foldl_nil, List.getD_cons_zero, List.getD_cons_succ, ju, List.set_cons_zero, List.set_cons_succ]
    exact rfl
  case o0x5 => exact fun _ _ hw _ => jb (v := pK g1 0) rfl (jc 29 _ 0 rfl _ _ rfl _)
  case o1x5 => exact fun _ _ hw _ => jb (v := iK ai) rfl (je 2 _ rfl g1 0 rfl 29 _ (hw.has kg1) (na2 _) _ rfl)
  case o2x5 => exact fun _ _ hw _ => jb (v := pK g2 0) rfl (jc 29 _ 0 rfl _ _ rfl _)
  case o3x5 => exact fun _ _ hw _ => jb (v := iK bi) rfl (je 2 _ rfl g2 0 rfl 29 _ (hw.has kg2) (na2 _) _ rfl)
  case o4x5 => exact fun _ _ hw _ => zK (.val (iK (cmpI ai bi))) rfl _ 66 Try.call66 rfl rfl _ rfl [iK ai, iK bi] rfl ((yX _ ai bi).mono fun e w' ⟨he, hg⟩ => ⟨_, he, hg, rfl⟩)
  case o5x5 => exact fun _ _ hw _ => jb (v := pK g1 1) rfl (jc 29 _ 1 rfl _ _ rfl _)
  case o6x5 => exact fun _ _ hw _ => jb (v := iK an) rfl (je 2 _ rfl g1 1 rfl 29 _ (hw.has kg1) (na2 _) _ rfl)
  case o7x5 => exact fun _ _ hw _ => jb (v := pK g2 1) rfl (jc 29 _ 1 rfl _ _ rfl _)
  case o8x5 => exact fun _ _ hw _ => jb (v := iK bn) rfl (je 2 _ rfl g2 1 rfl 29 _ (hw.has kg2) (na2 _) _ rfl)
  intro ptrs w3 GD hxE
  simp only [List.drop_succ_cons, List.drop_zero]
  replace kg1 := GD.has kg1
  replace kg2 := GD.has kg2
  replace GG := GG.drew.trans GD
  clear GD
  refine jC 14 rfl rfl _ 66 Try.call66 rfl rfl _ rfl [iK an, iK bn] rfl (yX _ an bn) ?_
  intro w4 G
  replace kg1 := G.has kg1
  replace kg2 := G.has kg2
  replace GG := GG.trans G
  clear G
  refine nr ?_; intro U h; simp only [z0, z1] at h; subst h
  refine zR 15 rfl rfl 39 2 _ rfl [(0, iK (cmpI ai bi)), (1, iK (cmpI an bn))] rfl #[iK (cmpI ai bi), iK (cmpI an bn)] 3 (by kernel_rfl) ?_
  intro w5 gs G egs kgs
  have bgs := jh GG egs
  have dg1gs := jf kg1 egs
  have dg2gs := jf kg2 egs
  replace kg1 := G.has kg1
  replace kg2 := G.has kg2
  replace GG := GG.trans G
  clear G egs
  refine jC 16 rfl rfl _ 65 Try.call65 rfl rfl _ rfl [.slice (some ⟨gs, 0, none⟩) 2 2] rfl (or_any _ gs (cmpI ai bi) (cmpI an bn) kgs) ?_
  intro w6 G
  replace kg1 := G.has kg1
  replace kg2 := G.has kg2
  replace kgs := G.has kgs
  replace GG := GG.trans G
  clear G
  refine mv 4 (iK (cmpP ai an bi bn)) (wpList_nil (ja (wp_ret ?_)))
  refine bodyPost_ret (results_tmp Try.results55 _ _ _) rfl ?_
  exact ⟨rfl, GG⟩
theorem jv {w : World} {g : Nat} {c : Array Value} {t : TypeId} (h : w.heap[g]? = some (.cells c t (0, 0))) (ht : t ≠ 5) : No5 w [g] := fun k hk => by
  cases List.mem_singleton.1 hk
  exact ⟨_, _, h, ht⟩
theorem zn (w : World) (p wp B : Nat) (id : Nat → Nat) (up op : Bool) (mi mn pi pn : Int) (oth : Nat → Nat) (ro : Option Addr) (rc : Nat) (q : List RV) (k c : Nat) (H : EW w p wp B id up op mi mn pi pn oth ro rc q k c) : Calls Try.prog 35 #[pK p 0] w (PlP w ⟨1, id, mi, mn, pi, pn, 0, []⟩) := by
  refine jT Try.func35 rfl Try.ntmps35 [pK p 0] [pK p 0, undef, undef, undef, undef, undef, undef, undef, undef, undef, undef, undef, undef, undef, undef, undef, undef, undef] rfl ?_
  have GG := Gro.refl w
  have kp := H.box
  have HW := H.win
  have hpl := jm kp
  refine wp_seq (wp_region_lit ?_)
  refine js 2 rfl rfl 46 rfl _ zv46 _ rfl ?_
  intro w1 g1 G eg1 kg1
  have bg1 := jh GG eg1
  have dpg1 := jf kp eg1
  replace kp := G.has kp
  replace HW := HW.gro G
  replace GG := GG.trans G
  clear G eg1
  refine wpList_nil (ja (wp_seq ?_))
  refine jw (A := ?Ax6) 12 [(0, 3), (1, 4), (2, 5), (3, 6), (4, 7), (5, 8), (6, 9), (7, 10), (8, 11), (9, 12), (10, 13), (11, 14)] [.val (pK p 0), .val (pK p 0), .val (pK p 18), .val (.agg (c29 mi mn)), .val (pK p 0), .val (pK p 0), .val (pK p 20), .val (.agg (c29 pi pn)), .val (pK p 0), .val (pK p 0), .val (pK p 0), .val (.agg (c23 id))] follows (by kernel_rfl) rfl ?hAx6 (jd ?o0x6 (jd ?o1x6 (jd ?o2x6 (jd ?o3x6 (jd ?o4x6 (jd ?o5x6 (jd ?o6x6 (jd ?o7x6 (jd ?o8x6 (jd ?o9x6 (jd ?o10x6 (jd ?o11x6 jM)))))))))))) ?restx6
  case hAx6 =>
    intro ptrs
    simp only [full, foldSlots, filledE, postE, List.foldl_cons, List.foldl_nil, List.getD_cons_zero, List.getD_cons_succ, ju, List.set_cons_zero, List.set_cons_succ]
    exact rfl
  case o0x6 => exact fun _ _ _ _ => jj (v := pK p 0) _ rfl rfl rfl
  case o1x6 => exact fun _ _ hw _ => jb (v := pK p 0) rfl (jl _ rfl _ rfl)
  case o2x6 => exact fun _ _ hw _ => jb (v := pK p 18) rfl (jc 98 _ 3 rfl _ _ rfl _)
  case o3x6 => exact fun _ _ hw _ => jb (v := .agg (c29 mi mn)) rfl (jk 29 _ rfl p 18 2 rfl 98 _ (hw.has kp) _ Try.underlying29 rfl si29 _)
  case o4x6 => exact fun _ _ _ _ => jj (v := pK p 0) _ rfl rfl rfl
  case o5x6 => exact fun _ _ hw _ => jb (v := pK p 0) rfl (jl _ rfl _ rfl)
  case o6x6 => exact fun _ _ hw _ => jb (v := pK p 20) rfl (jc 98 _ 4 rfl _ _ rfl _)
  case o7x6 => exact fun _ _ hw _ => jb (v := .agg (c29 pi pn)) rfl (jk 29 _ rfl p 20 2 rfl 98 _ (hw.has kp) _ Try.underlying29 rfl si29 _)
  case o8x6 => exact fun _ _ _ _ => jj (v := pK p 0) _ rfl rfl rfl
  case o9x6 => exact fun _ _ hw _ => jb (v := pK p 0) rfl (jl _ rfl _ rfl)
  case o10x6 => exact fun _ _ hw _ => jb (v := pK p 0) rfl (jc 98 _ 0 rfl _ _ rfl _)
  case o11x6 => exact fun _ _ hw _ => jb (v := .agg (c23 id)) rfl (jk 23 _ rfl p 0 16 rfl 98 _ (hw.has kp) _ Try.underlying23 rfl si23 _)
  intro ptrs w2 GD hxE
  simp only [List.drop_succ_cons, List.drop_zero]
  replace kp := GD.has kp
  replace kg1 := GD.has kg1
  replace HW := HW.gro ((Gro.refl _).drew.trans GD)
  replace GG := GG.drew.trans GD
  clear GD
  refine sv 15 (.agg (c110 mi mn pi pn id)) (jA 110 _ rfl [(0, .agg (c29 mi mn)), (1, .agg (c29 pi pn)), (2, .agg (c23 id))] rfl _ (by kernel_rfl)) (sv 16 (.iface 110 (.agg (c110 mi mn pi pn id))) (zE 110 _ rfl _ rfl) ?_)
  refine jt 17 rfl rfl _ 50 Try.call50 rfl rfl _ rfl [.iface 110 (.agg (c110 mi mn pi pn id))] rfl (YG _ id mi mn pi pn) (fun _ _ ⟨_, _, _, _, _, he, _⟩ => ⟨_, he⟩) ?_
  rintro v w3 ⟨s1g, s2g, s3g, aog, capg, he, HVg, G⟩
  cases he
  replace kp := G.has kp
  replace kg1 := G.has kg1
  replace HW := HW.gro G
  replace GG := GG.trans G
  clear G
  refine nr ?_; intro U h; simp only [z0, z1] at h; subst h
  refine jo rfl rfl 46 _ _ rfl g1 0 rfl (.agg (c46 1 zF 0 false id zF 0 mi mn pi pn s1g s2g zF 0 zF s3g 0 0 ⟨aog, 0, capg⟩)) rfl 46 _ kg1 (c46 1 zF 0 false id zF 0 mi mn pi pn s1g s2g zF 0 zF s3g 0 0 ⟨aog, 0, capg⟩) rfl (by kernel_rfl) (nlB rfl) (by kernel_rfl) (c46 1 zF 0 false id zF 0 mi mn pi pn s1g s2g zF 0 zF s3g 0 0 ⟨aog, 0, capg⟩) (by kernel_rfl) ?_
  intro w5 St
  replace kp := St.has (by omega) kp
  replace HW := HW.stT (by decide) (by decide) (by decide) kg1 St
  replace HVg := HVg.no5 ((GroS.refl [g1] _).st St (.inr (by simp))) (jv kg1 (by decide))
  replace GG := GG.store St bg1
  replace kg1 := St.new
  clear St
  refine wpList_nil (ja (wp_ret ?_))
  refine bodyPost_ret (results_cell_row Try.results35 _ _ g1 46 _ (0, 0) _ rfl kg1 Try.underlying46 rfl (by kernel_rfl)) rfl ?_
  exact ⟨_, _, _, _, _, rfl, HVg, GG⟩
theorem Jk (w : World) (p wp B : Nat) (id : Nat → Nat) (up op : Bool) (mi mn pi pn : Int) (oth : Nat → Nat) (ro : Option Addr) (rc : Nat) (q : List RV) (k c : Nat) (H : EW w p wp B id up op mi mn pi pn oth ro rc q k c) (n : Int) (ao : Option Addr) (cap : Nat) (l : List Nat) (HL : NC w .u8 ao cap l) (hl : l.length ≤ 140737488355000) : Calls Try.prog 38 #[pK p 0, iK n, .slice ao l.length cap] w (PlP w ⟨2, zF, mi, mn, pi, pn, n, l⟩) := by
  refine jT Try.func38 rfl Try.ntmps38 [pK p 0, iK n, .slice ao l.length cap] [pK p 0, iK n, .slice ao l.length cap, undef, undef, undef, undef, undef, undef, undef, undef, undef, undef, undef, undef, undef, undef, undef, undef, undef] rfl ?_
  have GG := Gro.refl w
  have kp := H.box
  have HW := H.win
  have hpl := jm kp
  refine wp_seq (wp_region_lit ?_)
  refine js 6 rfl rfl 46 rfl _ zv46 _ rfl ?_
  intro w1 g1 G eg1 kg1
  have bg1 := jh GG eg1
  have dpg1 := jf kp eg1
  replace kp := G.has kp
  replace HW := HW.gro G
  replace GG := GG.trans G
  clear G eg1
  refine wpList_nil (ja (wp_seq ?_))
  refine jw (A := ?Ax7) 10 [(0, 7), (1, 8), (2, 9), (3, 10), (4, 11), (5, 12), (6, 13), (7, 14), (8, 15), (9, 16)] [.val (pK p 0), .val (pK p 0), .val (pK p 18), .val (.agg (c29 mi mn)), .val (pK p 0), .val (pK p 0), .val (pK p 20), .val (.agg (c29 pi pn)), .val (iK n), .val (.slice ao l.length cap)] follows (by kernel_rfl) rfl ?hAx7 (jd ?o0x7 (jd ?o1x7 (jd ?o2x7 (jd ?o3x7 (jd ?o4x7 (jd ?o5x7 (jd ?o6x7 (jd ?o7x7 (jd ?o8x7 (jd ?o9x7 jM)))))))))) ?restx7
  case hAx7 =>
    intro ptrs
    simp only [full, foldSlots, filledE, postE, List.foldl_cons, List.foldl_nil, List.getD_cons_zero, List.getD_cons_succ, ju, List.set_cons_zero, List.set_cons_succ]
    exact rfl
  case o0x7 => exact fun _ _ _ _ => jj (v := pK p 0) _ rfl rfl rfl
  case o1x7 => exact fun _ _ hw _ => jb (v := pK p 0) rfl (jl _ rfl _ rfl)
  case o2x7 => exact fun _ _ hw _ => jb (v := pK p 18) rfl (jc 98 _ 3 rfl _ _ rfl _)
  case o3x7 => exact fun _ _ hw _ => jb (v := .agg (c29 mi mn)) rfl (jk 29 _ rfl p 18 2 rfl 98 _ (hw.has kp) _ Try.underlying29 rfl si29 _)
  case o4x7 => exact fun _ _ _ _ => jj (v := pK p 0) _ rfl rfl rfl
  case o5x7 => exact fun _ _ hw _ => jb (v := pK p 0) rfl (jl _ rfl _ rfl)
  case o6x7 => exact fun _ _ hw _ => jb (v := pK p 20) rfl (jc 98 _ 4 rfl _ _ rfl _)
  case o7x7 => exact fun _ _ hw _ => jb (v := .agg (c29 pi pn)) rfl (jk 29 _ rfl p 20 2 rfl 98 _ (hw.has kp) _ Try.underlying29 rfl si29 _)
  case o8x7 => exact fun _ _ _ _ => jj (v := iK n) _ rfl rfl rfl
  case o9x7 => exact fun _ _ _ _ => jj (v := .slice ao l.length cap) _ rfl rfl rfl
  intro ptrs w2 GD hxE
  simp only [List.drop_succ_cons, List.drop_zero]
  replace kp := GD.has kp
  replace kg1 := GD.has kg1
  replace HW := HW.gro ((Gro.refl _).drew.trans GD)
  replace GG := GG.drew.trans GD
  clear GD
  refine sv 17 (.agg (c125 mi mn pi pn n ⟨ao, l.length, cap⟩)) (jA 125 _ rfl [(0, .agg (c29 mi mn)), (1, .agg (c29 pi pn)), (2, iK n), (3, .slice ao l.length cap)] rfl _ (by kernel_rfl)) (sv 18 (.iface 125 (.agg (c125 mi mn pi pn n ⟨ao, l.length, cap⟩))) (zE 125 _ rfl _ rfl) ?_)
  refine jt 19 rfl rfl _ 50 Try.call50 rfl rfl _ rfl [.iface 125 (.agg (c125 mi mn pi pn n ⟨ao, l.length, cap⟩))] rfl (YH _ mi mn pi pn n ao cap l (HL.gro GG) hl) (fun _ _ ⟨_, _, _, _, _, he, _⟩ => ⟨_, he⟩) ?_
  rintro v w3 ⟨s1g, s2g, s3g, aog, capg, he, HVg, G⟩
  cases he
  replace kp := G.has kp
  replace kg1 := G.has kg1
  replace HW := HW.gro G
  replace GG := GG.trans G
  clear G
  refine nr ?_; intro U h; simp only [z0, z1] at h; subst h
  refine jo rfl rfl 46 _ _ rfl g1 0 rfl (.agg (c46 2 zF 0 false zF zF n mi mn pi pn s1g s2g zF 0 zF s3g 0 0 ⟨aog, l.length, capg⟩)) rfl 46 _ kg1 (c46 2 zF 0 false zF zF n mi mn pi pn s1g s2g zF 0 zF s3g 0 0 ⟨aog, l.length, capg⟩) rfl (by kernel_rfl) (nlB rfl) (by kernel_rfl) (c46 2 zF 0 false zF zF n mi mn pi pn s1g s2g zF 0 zF s3g 0 0 ⟨aog, l.length, capg⟩) (by kernel_rfl) ?_
  intro w5 St
  replace kp := St.has (by omega) kp
  replace HW := HW.stT (by decide) (by decide) (by decide) kg1 St
  replace HVg := HVg.no5 ((GroS.refl [g1] _).st St (.inr (by simp))) (jv kg1 (by decide))
  replace GG := GG.store St bg1
  replace kg1 := St.new
  clear St
  refine wpList_nil (ja (wp_ret ?_))
  refine bodyPost_ret (results_cell_row Try.results38 _ _ g1 46 _ (0, 0) _ rfl kg1 Try.underlying46 rfl (by kernel_rfl)) rfl ?_
  exact ⟨_, _, _, _, _, rfl, HVg, GG⟩
theorem uT (w : World) (p wp B : Nat) (id : Nat → Nat) (up op : Bool) (mi mn pi pn : Int) (oth : Nat → Nat) (ro : Option Addr) (rc : Nat) (q : List RV) (k c : Nat) (H : EW w p wp B id up op mi mn pi pn oth ro rc q k c) (hk : k + q.length ≤ 100000) (hc : c ≤ 100000) : Calls Try.prog 57 #[pK p 0] w (PlP w ⟨3, zF, mi, mn, pi, pn, ((c : Nat) : Int), []⟩) := by
  refine jq Try.func57 rfl Try.ntmps57 [pK p 0] ?_
  intro U h; simp only [List.length_cons, List.length_nil, List.cons_append, List.nil_append, Nat.reduceAdd, Nat.reduceSub, List.reduceReplicate] at h; subst h
  have GG := Gro.refl w
  have kp := H.box
  have HW := H.win
  have hpl := jm kp
  refine wp_seq (wp_region_lit ?_)
  refine js 2 rfl rfl 46 rfl _ zv46 _ rfl ?_
  intro w1 g1 G eg1 kg1
  have bg1 := jh GG eg1
  have dpg1 := jf kp eg1
  replace kp := G.has kp
  replace HW := HW.gro G
  replace GG := GG.trans G
  clear G eg1
  refine wpList_nil (ja (wp_seq ?_))
  refine jw (A := ?Ax8) 13 [(0, 3), (1, 4), (2, 5), (3, 6), (4, 7), (5, 8), (6, 9), (7, 10), (8, 11), (9, 12), (10, 13), (11, 14), (12, 15)] [.val (pK p 0), .val (pK p 0), .val (pK p 18), .val (.agg (c29 mi mn)), .val (pK p 0), .val (pK p 0), .val (pK p 20), .val (.agg (c29 pi pn)), .val (pK p 0), .val (pK p 0), .val (pK p 38), .val (pK wp 0), .val (iK ((c : Nat) : Int))] follows (by kernel_rfl) rfl ?hAx8 (jd ?o0x8 (jd ?o1x8 (jd ?o2x8 (jd ?o3x8 (jd ?o4x8 (jd ?o5x8 (jd ?o6x8 (jd ?o7x8 (jd ?o8x8 (jd ?o9x8 (jd ?o10x8 (jd ?o11x8 (jd ?o12x8 jM))))))))))))) ?restx8
  case hAx8 =>
    intro ptrs
    simp only [full, foldSlots, filledE, postE, List.foldl_cons, List.foldl_nil, List.getD_cons_zero, List.getD_cons_succ, ju, List.set_cons_zero, List.set_cons_succ]
    exact rfl
  case o0x8 => exact fun _ _ _ _ => jj (v := pK p 0) _ rfl rfl rfl
  case o1x8 => exact fun _ _ hw _ => jb (v := pK p 0) rfl (jl _ rfl _ rfl)
  case o2x8 => exact fun _ _ hw _ => jb (v := pK p 18) rfl (jc 98 _ 3 rfl _ _ rfl _)
  case o3x8 => exact fun _ _ hw _ => jb (v := .agg (c29 mi mn)) rfl (jk 29 _ rfl p 18 2 rfl 98 _ (hw.has kp) _ Try.underlying29 rfl si29 _)
  case o4x8 => exact fun _ _ _ _ => jj (v := pK p 0) _ rfl rfl rfl
  case o5x8 => exact fun _ _ hw _ => jb (v := pK p 0) rfl (jl _ rfl _ rfl)
  case o6x8 => exact fun _ _ hw _ => jb (v := pK p 20) rfl (jc 98 _ 4 rfl _ _ rfl _)
  case o7x8 => exact fun _ _ hw _ => jb (v := .agg (c29 pi pn)) rfl (jk 29 _ rfl p 20 2 rfl 98 _ (hw.has kp) _ Try.underlying29 rfl si29 _)
  case o8x8 => exact fun _ _ _ _ => jj (v := pK p 0) _ rfl rfl rfl
  case o9x8 => exact fun _ _ hw _ => jb (v := pK p 0) rfl (jl _ rfl _ rfl)
  case o10x8 => exact fun _ _ hw _ => jb (v := pK p 38) rfl (jc 98 _ 6 rfl _ _ rfl _)
  case o11x8 => exact fun _ _ hw _ => jb (v := pK wp 0) rfl (je 95 _ rfl p 38 rfl 98 _ (hw.has kp) (na95 _) _ rfl)
  case o12x8 => exact fun _ _ hw _ => zK (.val (iK ((c : Nat) : Int))) rfl _ 49 Try.call49 rfl rfl _ rfl [pK wp 0] rfl ((YQ _ wp B ro rc q k c (HW.gro ((Gro.refl _).drew.trans hw)) hk hc).mono fun e w' ⟨he, hg⟩ => ⟨_, he, hg, rfl⟩)
  intro ptrs w2 GD hxE
  simp only [List.drop_succ_cons, List.drop_zero]
  replace kp := GD.has kp
  replace kg1 := GD.has kg1
  replace HW := HW.gro ((Gro.refl _).drew.trans GD)
  replace GG := GG.drew.trans GD
  clear GD
  refine sv 16 (.agg (c129 mi mn pi pn ((c : Nat) : Int))) (jA 129 _ rfl [(0, .agg (c29 mi mn)), (1, .agg (c29 pi pn)), (2, iK ((c : Nat) : Int))] rfl _ (by kernel_rfl)) (sv 17 (.iface 129 (.agg (c129 mi mn pi pn ((c : Nat) : Int)))) (zE 129 _ rfl _ rfl) ?_)
  refine jt 18 rfl rfl _ 50 Try.call50 rfl rfl _ rfl [.iface 129 (.agg (c129 mi mn pi pn ((c : Nat) : Int)))] rfl (YI _ mi mn pi pn ((c : Nat) : Int)) (fun _ _ ⟨_, _, _, _, _, he, _⟩ => ⟨_, he⟩) ?_
  rintro v w3 ⟨s1g, s2g, s3g, aog, capg, he, HVg, G⟩
  cases he
  replace kp := G.has kp
  replace kg1 := G.has kg1
  replace HW := HW.gro G
  replace GG := GG.trans G
  clear G
  refine nr ?_; intro U h; simp only [z0, z1] at h; subst h
  refine jo rfl rfl 46 _ _ rfl g1 0 rfl (.agg (c46 3 zF 0 false zF zF ((c : Nat) : Int) mi mn pi pn s1g s2g zF 0 zF s3g 0 0 ⟨aog, 0, capg⟩)) rfl 46 _ kg1 (c46 3 zF 0 false zF zF ((c : Nat) : Int) mi mn pi pn s1g s2g zF 0 zF s3g 0 0 ⟨aog, 0, capg⟩) rfl (by kernel_rfl) (nlB rfl) (by kernel_rfl) (c46 3 zF 0 false zF zF ((c : Nat) : Int) mi mn pi pn s1g s2g zF 0 zF s3g 0 0 ⟨aog, 0, capg⟩) (by kernel_rfl) ?_
  intro w5 St
  replace kp := St.has (by omega) kp
  replace HW := HW.stT (by decide) (by decide) (by decide) kg1 St
  replace HVg := HVg.no5 ((GroS.refl [g1] _).st St (.inr (by simp))) (jv kg1 (by decide))
  replace GG := GG.store St bg1
  replace kg1 := St.new
  clear St
  refine wpList_nil (ja (wp_ret ?_))
  refine bodyPost_ret (results_cell_row Try.results57 _ _ g1 46 _ (0, 0) _ rfl kg1 Try.underlying46 rfl (by kernel_rfl)) rfl ?_
  exact ⟨_, _, _, _, _, rfl, HVg, GG⟩
end Go.Proofs.Ytlfanecaglbomaa
