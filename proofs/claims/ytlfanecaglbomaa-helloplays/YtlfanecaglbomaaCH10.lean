/- The document's end: its window, Less, Greeting, data, Rise, Fall, Send. -/
import Derived.Test.YtlfanecaglbomaaCH9
namespace Go.Proofs.Ytlfanecaglbomaa
set_option maxRecDepth 100000
set_option maxHeartbeats 4000000
open Go.RowKit
def zoE (M : Nat) : PostE := PostE.ex (fun v x => ∃ g, v = .slice (some ⟨g, 0, none⟩) 0 0 ∧ M ≤ g ∧ x.heap[g]? = some (.cells #[] 5 (0, 0))) (fun _ _ _ G ⟨g, h1, h2, h3⟩ => ⟨g, h1, h2, G.has h3⟩)
theorem Zj (M : Nat) (v : Value) : (zoE M).fill v = v := rfl
theorem uV (ty : TypeId) (w : World) {M g : Nat} (hk : w.heap[g]? = some (.cells #[] 5 (0, 0))) (hg : M ≤ g) (hM : M ≤ w.heap.size) {ao : Option Addr} {cap : Nat} {l : List Nat} (H : NC w .u8 ao cap l) (hl : l.length ≤ 140737488355000) :
    ∃ ao2 cap2 w', (Builtin.append_ #[36, 36] ty #[.slice (some ⟨g, 0, none⟩) 0 0, .slice ao l.length cap]).run Try.prog w = .ok (.slice ao2 l.length cap2) w' ∧ OB w' 5 .u8 M ao2 cap2 l ∧ Gro w w' := by
  obtain ⟨i, hi, hz, hsz, hby⟩ := bT.info
  have HO : OB w 5 .u8 M (some ⟨g, 0, none⟩) 0 [] := OB.made hk hg (Nat.le_refl _) (Nat.zero_le _) rfl rfl (fun x hx => by cases hx)
  have hcm : ∀ old, grownCap w l.length old 5 ≤ maxLen := fun old => grownCap_le_maxLen w l.length old 5 (by simp only [maxLen]; omega)
  cases ao with
  | none =>
    have h1 := H.bare rfl
    have h2 := H.fit
    have h3 : l = [] := List.eq_nil_of_length_eq_zero (by omega)
    subst h3
    subst h1
    exact ⟨some ⟨g, 0, none⟩, 0, w, run_append_owned_none (P := Try.prog) (w := w) M 36 ty 5 i 1 bT.und hi _ 0 _ HO.own, HO, Gro.refl _⟩
  | some a =>
    by_cases h0 : l = []
    · subst h0
      refine ⟨some ⟨g, 0, none⟩, 0, w, ?_, HO, Gro.refl _⟩
      have hf := run_firstCells_some (P := Try.prog) w i.size 0 a 0 cap [] (by simp) (fun j v hv => by simp at hv)
      simp [Builtin.append_, run_underlying bT.und, sizeOf, typeInfo, hi, Builtin.lenOf, hf, storeCells]
    · have hpos : 0 < l.length := List.length_pos_iff.2 h0
      have hx := H.xc
      have hr := run_append_grow (P := Try.prog) w 36 ty 5 i (.int .u8 0) bT.und hi hz ⟨g, 0, none⟩ 0 0 [] (by simp) (fun j v hv => by simp at hv) a l.length cap (l.map fun r : Nat => Value.int .u8 (r : Int)) (by rw [hsz]; simp) (fun j v hv => hx.cell a rfl j v hv) (by omega) (by omega) (growslice_fits (by omega) (by rw [hby]; omega))
      simp only [Nat.zero_add] at hr
      refine ⟨_, _, _, hr, OB.made (heap_alloc_new w.drew _) hM (grownCap_ge w l.length 0 5) (hcm 0) ?_ ?_ H.wf, (Gro.refl w).drew.trans (zm _ _)⟩
      · have hge := grownCap_ge w l.length 0 5
        have hzc : (Value.int .u8 0).cells.size = 1 := rfl
        simp only [Array.size_append, List.size_toArray, size_zeroCells, List.length_map, List.length_nil, hzc]
        omega
      · simp
theorem Ji {ops : Array Oper} {o : Oper} {A : Act} {x : World} (hw : Region.wanted o (yielded ops A.tmps) = true) (s y : Operand) (ho : o.op = .call { callee := .builtin .append, args := #[s, y], argTypes := #[36, 36] }) {M : Nat} {v : Value} (hs : A.eval s = v) (hv : (zoE M).p v x) {ao : Option Addr} {cap : Nat} {l : List Nat} (hy : A.eval y = .slice ao l.length cap) (H : NC x .u8 ao cap l) (hl : l.length ≤ 140737488355000) (hM : M ≤ x.heap.size) :
    OpE Try.prog ops (ocE M l) o A x := by
  obtain ⟨g, rfl, h1, h2⟩ := hv
  obtain ⟨ao2, cap2, w', hr, h3, h4⟩ := uV o.type x h2 h1 hM H hl
  exact yz _ hw (yX s y ho hs hy hr) h4 ⟨ao2, cap2, rfl, h3⟩
theorem WX.keep1 {t : TypeId} {cs cs' : Array Value} {w w' : World} {p B : Nat} {ao : Option Addr} {cap : Nat} {q : List RV} (H : WX t cs w p B ao cap q) (G : GroS [p] w w') (k : w'.heap[p]? = some (.cells cs' t (0, 0))) : WX t cs' w' p B ao cap q :=
  ⟨k, H.row.gros G (fun k hk hm => by rw [List.mem_singleton.1 hm] at hk; exact H.ne hk), fun x hx => (H.fr x hx).gros G (fun ad ha hm => H.f5 H.own x hx ad ha (by rw [List.mem_singleton.1 hm]; exact List.mem_cons_self)), H.base, H.sm, H.ty⟩
theorem WX.lcd {t : TypeId} {cs : Array Value} {w : World} {p B : Nat} {ao : Option Addr} {cap : Nat} {q : List RV} (H : WX t cs w p B ao cap q) (k : Nat) (hk : k ≤ q.length) : LC w (if cap = k then ao else ao.map (·.add (k * 1))) (cap - k) ((q.drop k).map (·.l)) := by
  have h := H.row.xc.drop k hk
  rw [Nat.mul_one, ← List.map_drop, ← List.length_drop] at h
  rw [Nat.mul_one]
  exact lc_of h fun x hx => (H.fr x (List.mem_of_mem_drop hx)).nc
theorem less_eq (w : World) (ai an bi bn : Int) (h : ai = bi) : Calls Try.prog 46 #[.agg (c29 ai an), .agg (c29 bi bn)] w fun e w' => e = .returned (.bool (decide (an < bn))) ∧ Gro w w' := by
  refine jp Try.func46 rfl Try.ntmps46 [.agg (c29 ai an), .agg (c29 bi bn)] ?_
  intro U h; simp only [List.length_cons, List.length_nil, List.cons_append, List.nil_append, Nat.reduceAdd, Nat.reduceSub, List.reduceReplicate] at h; subst h
  have GG := Gro.refl w
  refine wp_seq (wp_region_lit ?_)
  refine jB 2 rfl rfl 29 _ rfl _ rfl (c29 ai an) rfl ?_
  intro w1 g1 G eg1 kg1
  have bg1 := jm GG eg1
  replace GG := GG.trans G
  clear G eg1
  refine jB 3 rfl rfl 29 _ rfl _ rfl (c29 bi bn) rfl ?_
  intro w2 g2 G eg2 kg2
  have bg2 := jm GG eg2
  have dg1g2 := je kg1 eg2
  replace kg1 := G.has kg1
  replace GG := GG.trans G
  clear G eg2
  refine mv 4 (vFa) (wpList_nil (jc (wp_seq (wp_seq (wp_region_lit (sv 5 (pK g1 0) (jd 29 _ 0 rfl _ _ rfl _) (sv 6 (iK ai) (jh 2 _ rfl g1 0 rfl 29 _ kg1 (na2 _) _ rfl) (sv 7 (pK g2 0) (jd 29 _ 0 rfl _ _ rfl _) (sv 8 (iK bi) (jh 2 _ rfl g2 0 rfl 29 _ kg2 (na2 _) _ rfl) ?_)))))))))
  refine sv 9 (vFa) (jP 2 .i64 _ _ _ rfl Try.underlying2 ai bi rfl rfl false (decide_eq_true h) _) (wpList_nil (jc (wp_cond_false rfl (wp_skip (jc (wp_seq (wp_region_lit (sv 15 (pK g1 1) (jd 29 _ 1 rfl _ _ rfl _) ?_))))))))
  refine nr ?_; intro U h; simp only [z0, z1] at h; subst h
  refine sv 16 (iK an) (jh 2 _ rfl g1 1 rfl 29 _ kg1 (na2 _) _ rfl) (sv 17 (pK g2 1) (jd 29 _ 1 rfl _ _ rfl _) (sv 18 (iK bn) (jh 2 _ rfl g2 1 rfl 29 _ kg2 (na2 _) _ rfl) (sv 19 (.bool (decide (an < bn))) (jQ 2 _ _ _ rfl an bn rfl rfl (decide (an < bn)) rfl _) (mv 4 (.bool (decide (an < bn))) ?_))))
  refine wpList_nil (jc (wp_ret ?_))
  refine bodyPost_ret (results_tmp Try.results46 _ _ _) rfl ?_
  exact ⟨rfl, GG⟩
theorem less_ne (w : World) (ai an bi bn : Int) (h : ai ≠ bi) : Calls Try.prog 46 #[.agg (c29 ai an), .agg (c29 bi bn)] w fun e w' => e = .returned (.bool (decide (ai < bi))) ∧ Gro w w' := by
  refine jp Try.func46 rfl Try.ntmps46 [.agg (c29 ai an), .agg (c29 bi bn)] ?_
  intro U h; simp only [List.length_cons, List.length_nil, List.cons_append, List.nil_append, Nat.reduceAdd, Nat.reduceSub, List.reduceReplicate] at h; subst h
  have GG := Gro.refl w
  refine wp_seq (wp_region_lit ?_)
  refine jB 2 rfl rfl 29 _ rfl _ rfl (c29 ai an) rfl ?_
  intro w1 g1 G eg1 kg1
  have bg1 := jm GG eg1
  replace GG := GG.trans G
  clear G eg1
  refine jB 3 rfl rfl 29 _ rfl _ rfl (c29 bi bn) rfl ?_
  intro w2 g2 G eg2 kg2
  have bg2 := jm GG eg2
  have dg1g2 := je kg1 eg2
  replace kg1 := G.has kg1
  replace GG := GG.trans G
  clear G eg2
  refine mv 4 (vFa) (wpList_nil (jc (wp_seq (wp_seq (wp_region_lit (sv 5 (pK g1 0) (jd 29 _ 0 rfl _ _ rfl _) (sv 6 (iK ai) (jh 2 _ rfl g1 0 rfl 29 _ kg1 (na2 _) _ rfl) (sv 7 (pK g2 0) (jd 29 _ 0 rfl _ _ rfl _) (sv 8 (iK bi) (jh 2 _ rfl g2 0 rfl 29 _ kg2 (na2 _) _ rfl) ?_)))))))))
  refine sv 9 (vTr) (jP 2 .i64 _ _ _ rfl Try.underlying2 ai bi rfl rfl true (decide_eq_false h) _) (wpList_nil (jc (wp_cond_true rfl (wp_seq (wp_region_lit (sv 10 (pK g1 0) (jd 29 _ 0 rfl _ _ rfl _) ?_))))))
  refine nr ?_; intro U h; simp only [z0, z1] at h; subst h
  refine sv 11 (iK ai) (jh 2 _ rfl g1 0 rfl 29 _ kg1 (na2 _) _ rfl) (sv 12 (pK g2 0) (jd 29 _ 0 rfl _ _ rfl _) (sv 13 (iK bi) (jh 2 _ rfl g2 0 rfl 29 _ kg2 (na2 _) _ rfl) (sv 14 (.bool (decide (ai < bi))) (jQ 2 _ _ _ rfl ai bi rfl rfl (decide (ai < bi)) rfl _) (mv 4 (.bool (decide (ai < bi))) ?_))))
  refine wpList_nil (jc (wp_ret (jC ?_)))
  refine bodyPost_ret (results_tmp Try.results46 _ _ _) rfl ?_
  exact ⟨rfl, GG⟩
theorem zj (w : World) (ai an bi bn : Int) : Calls Try.prog 46 #[.agg (c29 ai an), .agg (c29 bi bn)] w fun e w' => e = .returned (.bool (lessN ai an bi bn)) ∧ Gro w w' := by
  unfold lessN
  split
  · exact less_eq w ai an bi bn ‹_›
  · exact less_ne w ai an bi bn ‹_›
theorem zE (w : World) (r B : Nat) (id : Nat → Nat) (up op : Bool) (mi mn pi pn : Int) (oth : Nat → Nat) (so : Option Addr) (sc : Nat) (u : List RV) (k c : Nat) (H : WX 34 (c34 id up op mi mn pi pn oth ⟨so, u.length, sc⟩ ((k : Nat) : Int) ((c : Nat) : Int)) w r B so sc u) : Calls Try.prog 36 #[pK r 0] w fun e w' => e = .returned (.agg (c46 1 zF 0 false id zF 0 mi mn pi pn Sl.nil Sl.nil zF 0 zF Sl.nil 0 0 Sl.nil)) ∧ Gro w w' := by
  refine jK Try.func36 rfl Try.ntmps36 [pK r 0] [pK r 0, undef, undef, undef, undef, undef, undef, undef, undef, undef, undef, undef, undef, undef, undef, undef] rfl ?_
  have GG := Gro.refl w
  have kr := H.box
  have hpl := H.lt
  have hBl := H.bl
  refine wp_seq (wp_region_lit ?_)
  refine jq 2 rfl rfl 46 rfl _ zv46 _ rfl ?_
  intro w1 g1 G eg1 kg1
  have bg1 := jm GG eg1
  have drg1 := je kr eg1
  replace kr := G.has kr
  replace GG := GG.trans G
  clear G eg1
  refine wpList_nil (jc (wp_seq ?_))
  refine jk (A := ?Ax1) 12 [(0, 3), (1, 4), (2, 5), (3, 6), (4, 7), (5, 8), (6, 9), (7, 10), (8, 11), (9, 12), (10, 13), (11, 14)] [.val (pK r 0), .val (pK r 0), .val (pK r 18), .val (.agg (c29 mi mn)), .val (pK r 0), .val (pK r 0), .val (pK r 20), .val (.agg (c29 pi pn)), .val (pK r 0), .val (pK r 0), .val (pK r 0), .val (.agg (c23 id))] follows (by kernel_rfl) rfl ?hAx1 (ja ?o0x1 (ja ?o1x1 (ja ?o2x1 (ja ?o3x1 (ja ?o4x1 (ja ?o5x1 (ja ?o6x1 (ja ?o7x1 (ja ?o8x1 (ja ?o9x1 (ja ?o10x1 (ja ?o11x1 jw)))))))))))) ?restx1
  case hAx1 =>
    intro ptrs
    simp only [full, foldSlots, filledE, postE, List.foldl_cons, List.foldl_nil, List.getD_cons_zero, List.getD_cons_succ, jr, List.set_cons_zero, List.set_cons_succ]
    exact rfl
  case o0x1 => exact fun _ _ _ _ => jg (v := pK r 0) _ rfl rfl rfl
  case o1x1 => exact fun _ _ hw _ => jb (v := pK r 0) rfl (jj _ rfl _ rfl)
  case o2x1 => exact fun _ _ hw _ => jb (v := pK r 18) rfl (jd 34 _ 3 rfl _ _ rfl _)
  case o3x1 => exact fun _ _ hw _ => jb (v := .agg (c29 mi mn)) rfl (jf 29 _ rfl r 18 2 rfl 34 _ (hw.has kr) _ Try.underlying29 rfl si29 _)
  case o4x1 => exact fun _ _ _ _ => jg (v := pK r 0) _ rfl rfl rfl
  case o5x1 => exact fun _ _ hw _ => jb (v := pK r 0) rfl (jj _ rfl _ rfl)
  case o6x1 => exact fun _ _ hw _ => jb (v := pK r 20) rfl (jd 34 _ 4 rfl _ _ rfl _)
  case o7x1 => exact fun _ _ hw _ => jb (v := .agg (c29 pi pn)) rfl (jf 29 _ rfl r 20 2 rfl 34 _ (hw.has kr) _ Try.underlying29 rfl si29 _)
  case o8x1 => exact fun _ _ _ _ => jg (v := pK r 0) _ rfl rfl rfl
  case o9x1 => exact fun _ _ hw _ => jb (v := pK r 0) rfl (jj _ rfl _ rfl)
  case o10x1 => exact fun _ _ hw _ => jb (v := pK r 0) rfl (jd 34 _ 0 rfl _ _ rfl _)
  case o11x1 => exact fun _ _ hw _ => jb (v := .agg (c23 id)) rfl (jf 23 _ rfl r 0 16 rfl 34 _ (hw.has kr) _ Try.underlying23 rfl si23 _)
  intro ptrs w2 GD hxE
  simp only [List.drop_succ_cons, List.drop_zero]
  replace kr := GD.has kr
  replace kg1 := GD.has kg1
  replace GG := GG.drew.trans GD
  clear GD
  refine sv 15 (.agg (c46 1 zF 0 false id zF 0 mi mn pi pn Sl.nil Sl.nil zF 0 zF Sl.nil 0 0 Sl.nil)) (jy 46 _ rfl [(0, iK 1), (6, .agg (c29 mi mn)), (7, .agg (c29 pi pn)), (3, .agg (c23 id))] rfl _ (by kernel_rfl)) ?_
  refine jn rfl rfl 46 _ _ rfl g1 0 rfl (.agg (c46 1 zF 0 false id zF 0 mi mn pi pn Sl.nil Sl.nil zF 0 zF Sl.nil 0 0 Sl.nil)) rfl 46 _ kg1 (c46 1 zF 0 false id zF 0 mi mn pi pn Sl.nil Sl.nil zF 0 zF Sl.nil 0 0 Sl.nil) rfl (by kernel_rfl) (nlB rfl) (by kernel_rfl) (c46 1 zF 0 false id zF 0 mi mn pi pn Sl.nil Sl.nil zF 0 zF Sl.nil 0 0 Sl.nil) (by kernel_rfl) ?_
  intro w4 St
  replace kr := St.has (by omega) kr
  replace GG := GG.store St bg1
  replace kg1 := St.new
  clear St
  refine wpList_nil (jc (wp_ret ?_))
  refine bodyPost_ret (results_cell_row Try.results36 _ _ g1 46 _ (0, 0) _ rfl kg1 Try.underlying46 rfl (by kernel_rfl)) rfl ?_
  exact ⟨rfl, GG⟩
theorem ua (w : World) (r B : Nat) (id : Nat → Nat) (up op : Bool) (mi mn pi pn : Int) (oth : Nat → Nat) (so : Option Addr) (sc : Nat) (u : List RV) (k c : Nat) (H : WX 34 (c34 id up op mi mn pi pn oth ⟨so, u.length, sc⟩ ((k : Nat) : Int) ((c : Nat) : Int)) w r B so sc u) (n : Int) (ao : Option Addr) (cap : Nat) (l : List Nat) (HB : NC w .u8 ao cap l) (hl : l.length ≤ 140737488355000) : Calls Try.prog 39 #[pK r 0, iK n, .slice ao l.length cap] w fun e w' => ∃ ao2 cap2, e = .returned (.agg (c46 2 zF 0 false zF zF n mi mn pi pn Sl.nil Sl.nil zF 0 zF Sl.nil 0 0 ⟨ao2, l.length, cap2⟩)) ∧ OB w' 5 .u8 0 ao2 cap2 l ∧ Gro w w' := by
  refine jK Try.func39 rfl Try.ntmps39 [pK r 0, iK n, .slice ao l.length cap] [pK r 0, iK n, .slice ao l.length cap, undef, undef, undef, undef, undef, undef, undef, undef, undef, undef, undef, undef, undef, undef, undef, undef, undef] rfl ?_
  have GG := Gro.refl w
  have kr := H.box
  have hpl := H.lt
  have hBl := H.bl
  refine wp_seq (wp_region_lit ?_)
  refine jq 6 rfl rfl 46 rfl _ zv46 _ rfl ?_
  intro w1 g1 G eg1 kg1
  have bg1 := jm GG eg1
  have drg1 := je kr eg1
  replace kr := G.has kr
  replace GG := GG.trans G
  clear G eg1
  refine wpList_nil (jc (wp_seq ?_))
  refine jk (A := ?Ax2) 12 [(0, 7), (1, 8), (2, 9), (3, 10), (4, 11), (5, 12), (6, 13), (7, 14), (8, 15), (9, 16), (10, 17), (11, 18)] [.val (pK r 0), .val (pK r 0), .val (pK r 18), .val (.agg (c29 mi mn)), .val (pK r 0), .val (pK r 0), .val (pK r 20), .val (.agg (c29 pi pn)), .val (iK n), zoE w.heap.size, .val (.slice ao l.length cap), ocE w.heap.size l] follows (by kernel_rfl) rfl ?hAx2 (ja ?o0x2 (ja ?o1x2 (ja ?o2x2 (ja ?o3x2 (ja ?o4x2 (ja ?o5x2 (ja ?o6x2 (ja ?o7x2 (ja ?o8x2 (ja ?o9x2 (ja ?o10x2 (ja ?o11x2 jw)))))))))))) ?restx2
  case hAx2 =>
    intro ptrs
    simp only [full, foldSlots, filledE, postE, List.foldl_cons, List.foldl_nil, List.getD_cons_zero, List.getD_cons_succ, jr, Zj, Zl, List.set_cons_zero, List.set_cons_succ]
    exact rfl
  case o0x2 => exact fun _ _ _ _ => jg (v := pK r 0) _ rfl rfl rfl
  case o1x2 => exact fun _ _ hw _ => jb (v := pK r 0) rfl (jj _ rfl _ rfl)
  case o2x2 => exact fun _ _ hw _ => jb (v := pK r 18) rfl (jd 34 _ 3 rfl _ _ rfl _)
  case o3x2 => exact fun _ _ hw _ => jb (v := .agg (c29 mi mn)) rfl (jf 29 _ rfl r 18 2 rfl 34 _ (hw.has kr) _ Try.underlying29 rfl si29 _)
  case o4x2 => exact fun _ _ _ _ => jg (v := pK r 0) _ rfl rfl rfl
  case o5x2 => exact fun _ _ hw _ => jb (v := pK r 0) rfl (jj _ rfl _ rfl)
  case o6x2 => exact fun _ _ hw _ => jb (v := pK r 20) rfl (jd 34 _ 4 rfl _ _ rfl _)
  case o7x2 => exact fun _ _ hw _ => jb (v := .agg (c29 pi pn)) rfl (jf 29 _ rfl r 20 2 rfl 34 _ (hw.has kr) _ Try.underlying29 rfl si29 _)
  case o8x2 => exact fun _ _ _ _ => jg (v := iK n) _ rfl rfl rfl
  case o9x2 =>
    intro ptrs x hw hE
    exact yz _ rfl (yP 36 0 _ rfl [] rfl (by kernel_rfl)) (zm _ _) ⟨x.heap.size, rfl, Nat.le_trans (GG.drew.trans hw).size (Nat.le_refl _), heap_alloc_new _ _⟩
  case o10x2 => exact fun _ _ _ _ => jg (v := .slice ao l.length cap) _ rfl rfl rfl
  case o11x2 =>
    intro ptrs x hw hE
    exact Ji (v := ptrs 9) rfl _ _ rfl rfl hE.1 rfl (HB.gro (GG.drew.trans hw)) hl (GG.drew.trans hw).size
  intro ptrs w2 GD hxE
  simp only [List.drop_succ_cons, List.drop_zero]
  replace kr := GD.has kr
  replace kg1 := GD.has kg1
  replace GG := GG.drew.trans GD
  obtain ⟨_, ⟨ao2, cap2, hv, OC⟩, _⟩ := hxE
  simp only [hv]
  clear hv
  clear GD
  refine sv 19 (.agg (c46 2 zF 0 false zF zF n mi mn pi pn Sl.nil Sl.nil zF 0 zF Sl.nil 0 0 ⟨ao2, l.length, cap2⟩)) (jy 46 _ rfl [(0, iK 2), (6, .agg (c29 mi mn)), (7, .agg (c29 pi pn)), (5, iK n), (13, .slice ao2 l.length cap2)] rfl _ (by kernel_rfl)) ?_
  refine jn rfl rfl 46 _ _ rfl g1 0 rfl (.agg (c46 2 zF 0 false zF zF n mi mn pi pn Sl.nil Sl.nil zF 0 zF Sl.nil 0 0 ⟨ao2, l.length, cap2⟩)) rfl 46 _ kg1 (c46 2 zF 0 false zF zF n mi mn pi pn Sl.nil Sl.nil zF 0 zF Sl.nil 0 0 ⟨ao2, l.length, cap2⟩) rfl (by kernel_rfl) (nlB rfl) (by kernel_rfl) (c46 2 zF 0 false zF zF n mi mn pi pn Sl.nil Sl.nil zF 0 zF Sl.nil 0 0 ⟨ao2, l.length, cap2⟩) (by kernel_rfl) ?_
  intro w4 St
  replace kr := St.has (by omega) kr
  replace OC := OC.no5 ((GroS.refl [g1] _).st St (.inr (by simp))) (jG kg1 (by decide))
  replace GG := GG.store St bg1
  replace kg1 := St.new
  clear St
  refine wpList_nil (jc (wp_ret ?_))
  refine bodyPost_ret (results_cell_row Try.results39 _ _ g1 46 _ (0, 0) _ rfl kg1 Try.underlying46 rfl (by kernel_rfl)) rfl ?_
  exact ⟨ao2, cap2, rfl, OC.mono (Nat.zero_le _), GG⟩
theorem yD (w : World) (r B : Nat) (id : Nat → Nat) (up op : Bool) (mi mn pi pn : Int) (oth : Nat → Nat) (so : Option Addr) (sc : Nat) (u : List RV) (k c : Nat) (H : WX 34 (c34 id up op mi mn pi pn oth ⟨so, u.length, sc⟩ ((k : Nat) : Int) ((c : Nat) : Int)) w r B so sc u) (hk : k ≤ u.length) (hu : u.length ≤ 100000) (_hc : c ≤ 100000) : Calls Try.prog 26 #[pK r 38] w fun e w' => e = .returned (.tuple #[iK ((k + 1 : Nat) : Int), .slice (if sc = k then so else so.map (·.add (k * 1))) ((u.drop k).length) (sc - k)]) ∧ Gro w w' := by
  refine jK Try.func26 rfl Try.ntmps26 [pK r 38] [pK r 38, undef, undef, undef, undef, undef, undef, undef, undef, undef, undef, undef, undef, undef, undef, undef, undef, undef] rfl ?_
  have GG := Gro.refl w
  have kr := H.box
  have hpl := H.lt
  have hBl := H.bl
  refine wp_seq (wp_region_lit (mv 2 (iK 0) (mv 3 (.slice none 0 0) (wpList_nil (jc (wp_seq ?_))))))
  refine jk (A := ?Ax3) 15 [(0, 4), (1, 5), (2, 6), (3, 7), (4, 8), (5, 9), (6, 10), (7, 11), (8, 12), (9, 13), (10, 14), (11, 15), (12, 16), (13, 17), (14, 2)] [.val (pK r 38), .val (pK r 38), .val (pK r 39), .val (iK ((k : Nat) : Int)), .val (iK ((k + 1 : Nat) : Int)), .val (pK r 38), .val (pK r 38), .val (pK r 38), .val (.slice so u.length sc), .val (pK r 38), .val (pK r 38), .val (pK r 39), .val (iK ((k : Nat) : Int)), .val (.slice (if sc = k then so else so.map (·.add (k * 1))) ((u.drop k).length) (sc - k)), .val (iK ((k + 1 : Nat) : Int))] follows (by kernel_rfl) rfl ?hAx3 (ja ?o0x3 (ja ?o1x3 (ja ?o2x3 (ja ?o3x3 (ja ?o4x3 (ja ?o5x3 (ja ?o6x3 (ja ?o7x3 (ja ?o8x3 (ja ?o9x3 (ja ?o10x3 (ja ?o11x3 (ja ?o12x3 (ja ?o13x3 (ja ?o14x3 jw))))))))))))))) ?restx3
  case hAx3 =>
    intro ptrs
    simp only [full, foldSlots, filledE, postE, List.foldl_cons, List.foldl_nil, List.getD_cons_zero, List.getD_cons_succ, jr, List.set_cons_zero, List.set_cons_succ]
    exact rfl
  case o0x3 => exact fun _ _ _ _ => jg (v := pK r 38) _ rfl rfl rfl
  case o1x3 => exact fun _ _ hw _ => jb (v := pK r 38) rfl (jj _ rfl _ rfl)
  case o2x3 => exact fun _ _ hw _ => jb (v := pK r 39) rfl (jd 32 _ 1 rfl _ _ rfl _)
  case o3x3 => exact fun _ _ hw _ => jb (v := iK ((k : Nat) : Int)) rfl (jh 2 _ rfl r 39 rfl 34 _ (hw.has kr) (na2 _) _ rfl)
  case o4x3 => exact fun _ _ hw _ => jb (v := iK ((k + 1 : Nat) : Int)) rfl (jZ 2 _ _ _ rfl ((k : Nat) : Int) 1 ((k + 1 : Nat) : Int) rfl rfl (by omega) (by omega) (by omega) _)
  case o5x3 => exact fun _ _ _ _ => jg (v := pK r 38) _ rfl rfl rfl
  case o6x3 => exact fun _ _ hw _ => jb (v := pK r 38) rfl (jj _ rfl _ rfl)
  case o7x3 => exact fun _ _ hw _ => jb (v := pK r 38) rfl (jd 32 _ 0 rfl _ _ rfl _)
  case o8x3 => exact fun _ _ hw _ => jb (v := .slice so u.length sc) rfl (jh 30 _ rfl r 38 rfl 34 _ (hw.has kr) (na30 _) _ rfl)
  case o9x3 => exact fun _ _ _ _ => jg (v := pK r 38) _ rfl rfl rfl
  case o10x3 => exact fun _ _ hw _ => jb (v := pK r 38) rfl (jj _ rfl _ rfl)
  case o11x3 => exact fun _ _ hw _ => jb (v := pK r 39) rfl (jd 32 _ 1 rfl _ _ rfl _)
  case o12x3 => exact fun _ _ hw _ => jb (v := iK ((k : Nat) : Int)) rfl (jh 2 _ rfl r 39 rfl 34 _ (hw.has kr) (na2 _) _ rfl)
  case o13x3 => exact fun _ _ hw _ => jb (v := .slice (if sc = k then so else so.map (·.add (k * 1))) ((u.drop k).length) (sc - k)) rfl ((uT rY _ _ rfl so u.length sc k rfl rfl hk _).trans (by rw [List.length_drop]))
  case o14x3 => exact fun _ _ _ _ => yj (v := iK ((k + 1 : Nat) : Int)) _ rfl rfl rfl
  intro ptrs w1 GD hxE
  simp only [List.drop_succ_cons, List.drop_zero]
  replace kr := GD.has kr
  replace GG := GG.drew.trans GD
  clear GD
  refine mv 3 (.slice (if sc = k then so else so.map (·.add (k * 1))) ((u.drop k).length) (sc - k)) (wpList_nil (jc (wp_ret ?_)))
  refine bodyPost_ret (results_tmp2 Try.results26 _ _ _) rfl ?_
  exact ⟨rfl, GG⟩
theorem JI (w : World) (r B : Nat) (id : Nat → Nat) (up op : Bool) (mi mn pi pn : Int) (oth : Nat → Nat) (so : Option Addr) (sc : Nat) (u : List RV) (k c : Nat) (H : WX 34 (c34 id up op mi mn pi pn oth ⟨so, u.length, sc⟩ ((k : Nat) : Int) ((c : Nat) : Int)) w r B so sc u) (_hk : k ≤ u.length) (_hu : u.length ≤ 100000) (_hc : c ≤ 100000) (i : Int) (hi : i < ((k : Nat) : Int) + 1) : Calls Try.prog 48 #[pK r 38, iK i] w fun e w' => e = .returned (iK 0) ∧ Gro w w' := by
  refine jp Try.func48 rfl Try.ntmps48 [pK r 38, iK i] ?_
  intro U h; simp only [List.length_cons, List.length_nil, List.cons_append, List.nil_append, Nat.reduceAdd, Nat.reduceSub, List.reduceReplicate] at h; subst h
  have GG := Gro.refl w
  have kr := H.box
  have hpl := H.lt
  have hBl := H.bl
  refine wp_seq (wp_region_lit (mv 4 (iK 0) (wpList_nil (jc (wp_seq (wp_seq ?_))))))
  refine jt ?_
  intro OPS hY
  have y6 := hY 6 12 rfl
  clear hY
  refine mv 6 (iK i) (mv 7 (pK r 38) (sv 8 (pK r 38) (jj _ rfl _ rfl) (sv 9 (pK r 39) (jd 32 _ 1 rfl _ _ rfl _) (sv 10 (iK ((k : Nat) : Int)) (jh 2 _ rfl r 39 rfl 34 _ kr (na2 _) _ rfl) ?_))))
  refine sv 11 (vTr) (vC 2 _ _ _ rfl i ((k : Nat) : Int) rfl rfl true (by first | exact decide_eq_true (by omega) | exact decide_eq_false (by omega)) _) (mv 12 (vTr) (jv 13 rfl rfl y6 rfl ?_))
  refine nr ?_; intro U h; simp only [z0, z1] at h; subst h
  refine jv 14 rfl rfl y6 rfl (jv 15 rfl rfl y6 rfl (jv 16 rfl rfl y6 rfl (jv 17 rfl rfl y6 rfl (jv 18 rfl rfl y6 rfl ?_))))
  refine jv 19 rfl rfl y6 rfl (mv 20 (vTr) (wpList_nil (jc (wp_cond_true rfl (wp_seq (wp_region_lit (mv 4 (iK 0) (wpList_nil (jc (wp_ret (jC ?_)))))))))))
  refine bodyPost_ret (results_tmp Try.results48 _ _ _) rfl ?_
  exact ⟨rfl, GG⟩
theorem Je (w : World) (r B : Nat) (id : Nat → Nat) (up op : Bool) (mi mn pi pn : Int) (oth : Nat → Nat) (so : Option Addr) (sc : Nat) (u : List RV) (k c : Nat) (H : WX 34 (c34 id up op mi mn pi pn oth ⟨so, u.length, sc⟩ ((k : Nat) : Int) ((c : Nat) : Int)) w r B so sc u) (hk : k ≤ u.length) (_hu : u.length ≤ 100000) (_hc : c ≤ 100000) (i : Int) (hi : ((u.length : Nat) : Int) < i) : Calls Try.prog 48 #[pK r 38, iK i] w fun e w' => e = .returned (iK 0) ∧ Gro w w' := by
  refine jp Try.func48 rfl Try.ntmps48 [pK r 38, iK i] ?_
  intro U h; simp only [List.length_cons, List.length_nil, List.cons_append, List.nil_append, Nat.reduceAdd, Nat.reduceSub, List.reduceReplicate] at h; subst h
  have GG := Gro.refl w
  have kr := H.box
  have hpl := H.lt
  have hBl := H.bl
  refine wp_seq (wp_region_lit (mv 4 (iK 0) (wpList_nil (jc (wp_seq (wp_seq ?_))))))
  refine jt ?_
  intro OPS hY
  have y6 := hY 6 12 rfl
  clear hY
  refine mv 6 (iK i) (mv 7 (pK r 38) (sv 8 (pK r 38) (jj _ rfl _ rfl) (sv 9 (pK r 39) (jd 32 _ 1 rfl _ _ rfl _) (sv 10 (iK ((k : Nat) : Int)) (jh 2 _ rfl r 39 rfl 34 _ kr (na2 _) _ rfl) ?_))))
  refine sv 11 (vFa) (vC 2 _ _ _ rfl i ((k : Nat) : Int) rfl rfl false (by first | exact decide_eq_true (by omega) | exact decide_eq_false (by omega)) _) (mv 12 (vFa) (ji 13 rfl rfl y6 rfl (iK i) (rfl) ?_))
  refine nr ?_; intro U h; simp only [z0, z1] at h; subst h
  refine ji 14 rfl rfl y6 rfl (pK r 38) (rfl) (ji 15 rfl rfl y6 rfl (pK r 38) (jj _ rfl _ rfl) (ji 16 rfl rfl y6 rfl (pK r 38) (jd 32 _ 0 rfl _ _ rfl _) (ji 17 rfl rfl y6 rfl (.slice so u.length sc) (jh 30 _ rfl r 38 rfl 34 _ kr (na30 _) _ rfl) (ji 18 rfl rfl y6 rfl (iK ((u.length : Nat) : Int)) (jM Try.underlying30 _ rfl _ _ _ rfl _) ?_))))
  refine ji 19 rfl rfl y6 rfl (vTr) (jS 2 _ _ _ rfl i ((u.length : Nat) : Int) rfl rfl true (by first | exact decide_eq_true (by omega) | exact decide_eq_false (by omega)) _) (mv 20 (vTr) (wpList_nil (jc (wp_cond_true rfl (wp_seq (wp_region_lit (mv 4 (iK 0) (wpList_nil (jc (wp_ret (jC ?_)))))))))))
  refine bodyPost_ret (results_tmp Try.results48 _ _ _) rfl ?_
  exact ⟨rfl, GG⟩
theorem Zx (w : World) (r B : Nat) (id : Nat → Nat) (up op : Bool) (mi mn pi pn : Int) (oth : Nat → Nat) (so : Option Addr) (sc : Nat) (u : List RV) (k c : Nat) (H : WX 34 (c34 id up op mi mn pi pn oth ⟨so, u.length, sc⟩ ((k : Nat) : Int) ((c : Nat) : Int)) w r B so sc u) (_hk : k ≤ u.length) (hu : u.length ≤ 100000) (_hc : c ≤ 100000) (i : Int) (m : Nat) (hm1 : 1 ≤ m) (hm : k + m ≤ u.length) (hi : i = ((k + m : Nat) : Int)) : Calls Try.prog 48 #[pK r 38, iK i] w fun e w' => e = .returned (iK ((m : Nat) : Int)) ∧ GroS [r] w w' ∧ WX 34 (c34 id up op mi mn pi pn oth ⟨so, u.length, sc⟩ ((k + m : Nat) : Int) ((c : Nat) : Int)) w' r B so sc u := by
  refine jp Try.func48 rfl Try.ntmps48 [pK r 38, iK i] ?_
  intro U h; simp only [List.length_cons, List.length_nil, List.cons_append, List.nil_append, Nat.reduceAdd, Nat.reduceSub, List.reduceReplicate] at h; subst h
  have GG := GroS.refl [r] w
  have kr := H.box
  have hpl := H.lt
  have hBl := H.bl
  refine wp_seq (wp_region_lit (mv 4 (iK 0) (wpList_nil (jc (wp_seq (wp_seq ?_))))))
  refine jt ?_
  intro OPS hY
  have y6 := hY 6 12 rfl
  clear hY
  refine mv 6 (iK i) (mv 7 (pK r 38) (sv 8 (pK r 38) (jj _ rfl _ rfl) (sv 9 (pK r 39) (jd 32 _ 1 rfl _ _ rfl _) (sv 10 (iK ((k : Nat) : Int)) (jh 2 _ rfl r 39 rfl 34 _ kr (na2 _) _ rfl) ?_))))
  refine sv 11 (vFa) (vC 2 _ _ _ rfl i ((k : Nat) : Int) rfl rfl false (by first | exact decide_eq_true (by omega) | exact decide_eq_false (by omega)) _) (mv 12 (vFa) (ji 13 rfl rfl y6 rfl (iK i) (rfl) ?_))
  refine nr ?_; intro U h; simp only [z0, z1] at h; subst h
  refine ji 14 rfl rfl y6 rfl (pK r 38) (rfl) (ji 15 rfl rfl y6 rfl (pK r 38) (jj _ rfl _ rfl) (ji 16 rfl rfl y6 rfl (pK r 38) (jd 32 _ 0 rfl _ _ rfl _) (ji 17 rfl rfl y6 rfl (.slice so u.length sc) (jh 30 _ rfl r 38 rfl 34 _ kr (na30 _) _ rfl) (ji 18 rfl rfl y6 rfl (iK ((u.length : Nat) : Int)) (jM Try.underlying30 _ rfl _ _ _ rfl _) ?_))))
  refine ji 19 rfl rfl y6 rfl (vFa) (jS 2 _ _ _ rfl i ((u.length : Nat) : Int) rfl rfl false (by first | exact decide_eq_true (by omega) | exact decide_eq_false (by omega)) _) (mv 20 (vFa) (wpList_nil (jc (wp_cond_false rfl (wp_skip (jc (wp_seq (wp_region_lit (mv 21 (iK i) (mv 22 (pK r 38) ?_))))))))))
  refine nr ?_; intro U h; simp only [z0, z1] at h; subst h
  refine sv 23 (pK r 38) (jj _ rfl _ rfl) (sv 24 (pK r 39) (jd 32 _ 1 rfl _ _ rfl _) (sv 25 (iK ((k : Nat) : Int)) (jh 2 _ rfl r 39 rfl 34 _ kr (na2 _) _ rfl) (sv 26 (iK ((m : Nat) : Int)) (vy 2 _ _ _ rfl i ((k : Nat) : Int) ((m : Nat) : Int) rfl rfl (by omega) (by omega) (by omega) _) (mv 5 (iK ((m : Nat) : Int)) ?_))))
  refine wpList_nil (jc (wp_seq (wp_region_lit (mv 27 (pK r 38) (mv 28 (iK i) (sv 29 (pK r 38) (jj _ rfl _ rfl) (sv 30 (pK r 39) (jd 32 _ 1 rfl _ _ rfl _) ?_)))))))
  refine nr ?_; intro U h; simp only [z0, z1] at h; subst h
  refine jn rfl rfl 2 _ _ rfl r 39 rfl (iK i) rfl 34 _ kr #[iK i] rfl (by kernel_rfl) (nlB rfl) (by kernel_rfl) (c34 id up op mi mn pi pn oth ⟨so, u.length, sc⟩ i ((c : Nat) : Int)) (by kernel_rfl) ?_
  intro w2 St
  replace GG := GG.st St (.inr (by simp))
  replace kr := St.new
  clear St
  refine wpList_nil (jc (wp_seq (wp_region_lit (mv 31 (iK ((m : Nat) : Int)) (mv 4 (iK ((m : Nat) : Int)) (wpList_nil (jc (wp_ret ?_))))))))
  refine bodyPost_ret (results_tmp Try.results48 _ _ _) rfl ?_
  rw [hi] at kr
  exact ⟨rfl, GG, H.keep1 GG kr⟩
theorem Ye (w : World) (r B : Nat) (id : Nat → Nat) (up op : Bool) (mi mn pi pn : Int) (oth : Nat → Nat) (so : Option Addr) (sc : Nat) (u : List RV) (k c : Nat) (H : WX 34 (c34 id up op mi mn pi pn oth ⟨so, u.length, sc⟩ ((k : Nat) : Int) ((c : Nat) : Int)) w r B so sc u) (_hk : k ≤ u.length) (_hu : u.length ≤ 100000) (hc : c ≤ 100000) (i : Int) (hi : i ≠ ((c : Nat) : Int) + 1) : Calls Try.prog 47 #[pK r 38, iK i] w fun e w' => e = .returned (vFa) ∧ Gro w w' := by
  refine jp Try.func47 rfl Try.ntmps47 [pK r 38, iK i] ?_
  intro U h; simp only [List.length_cons, List.length_nil, List.cons_append, List.nil_append, Nat.reduceAdd, Nat.reduceSub, List.reduceReplicate] at h; subst h
  have GG := Gro.refl w
  have kr := H.box
  have hpl := H.lt
  have hBl := H.bl
  refine wp_seq (wp_region_lit (mv 4 (vFa) (wpList_nil (jc (wp_seq (wp_seq ?_))))))
  refine jt ?_
  intro OPS hY
  have y5 := hY 5 10 rfl
  clear hY
  refine mv 5 (pK r 38) (sv 6 (pK r 38) (jj _ rfl _ rfl) (sv 7 (pK r 40) (jd 32 _ 2 rfl _ _ rfl _) (sv 8 (iK ((c : Nat) : Int)) (jh 2 _ rfl r 40 rfl 34 _ kr (na2 _) _ rfl) (sv 9 (vFa) (uS 2 _ _ _ rfl ((c : Nat) : Int) 4611686018427387904 rfl rfl false (by first | exact decide_eq_true (by omega) | exact decide_eq_false (by omega)) _) ?_))))
  refine mv 10 (vFa) (ji 11 rfl rfl y5 rfl (iK i) (rfl) (ji 12 rfl rfl y5 rfl (pK r 38) (rfl) ?_))
  refine nr ?_; intro U h; simp only [z0, z1] at h; subst h
  refine ji 13 rfl rfl y5 rfl (pK r 38) (jj _ rfl _ rfl) (ji 14 rfl rfl y5 rfl (pK r 40) (jd 32 _ 2 rfl _ _ rfl _) (ji 15 rfl rfl y5 rfl (iK ((c : Nat) : Int)) (jh 2 _ rfl r 40 rfl 34 _ kr (na2 _) _ rfl) (ji 16 rfl rfl y5 rfl (iK ((c + 1 : Nat) : Int)) (jZ 2 _ _ _ rfl ((c : Nat) : Int) 1 ((c + 1 : Nat) : Int) rfl rfl (by omega) (by omega) (by omega) _) (ji 17 rfl rfl y5 rfl (vTr) (jP 2 .i64 _ _ _ rfl Try.underlying2 i ((c + 1 : Nat) : Int) rfl rfl true (decide_eq_false (by omega)) _) ?_))))
  refine mv 18 (vTr) (wpList_nil (jc (wp_cond_true rfl (wp_seq (wp_region_lit (mv 4 (vFa) (wpList_nil (jc (wp_ret (jC ?_))))))))))
  refine bodyPost_ret (results_tmp Try.results47 _ _ _) rfl ?_
  exact ⟨rfl, GG⟩
theorem Yd (w : World) (r B : Nat) (id : Nat → Nat) (up op : Bool) (mi mn pi pn : Int) (oth : Nat → Nat) (so : Option Addr) (sc : Nat) (u : List RV) (k c : Nat) (H : WX 34 (c34 id up op mi mn pi pn oth ⟨so, u.length, sc⟩ ((k : Nat) : Int) ((c : Nat) : Int)) w r B so sc u) (_hk : k ≤ u.length) (_hu : u.length ≤ 100000) (hc : c ≤ 100000) (i : Int) (hi : i = ((c : Nat) : Int) + 1) : Calls Try.prog 47 #[pK r 38, iK i] w fun e w' => e = .returned (vTr) ∧ GroS [r] w w' ∧ WX 34 (c34 id up op mi mn pi pn oth ⟨so, u.length, sc⟩ ((k : Nat) : Int) ((c + 1 : Nat) : Int)) w' r B so sc u := by
  refine jp Try.func47 rfl Try.ntmps47 [pK r 38, iK i] ?_
  intro U h; simp only [List.length_cons, List.length_nil, List.cons_append, List.nil_append, Nat.reduceAdd, Nat.reduceSub, List.reduceReplicate] at h; subst h
  have GG := GroS.refl [r] w
  have kr := H.box
  have hpl := H.lt
  have hBl := H.bl
  refine wp_seq (wp_region_lit (mv 4 (vFa) (wpList_nil (jc (wp_seq (wp_seq ?_))))))
  refine jt ?_
  intro OPS hY
  have y5 := hY 5 10 rfl
  clear hY
  refine mv 5 (pK r 38) (sv 6 (pK r 38) (jj _ rfl _ rfl) (sv 7 (pK r 40) (jd 32 _ 2 rfl _ _ rfl _) (sv 8 (iK ((c : Nat) : Int)) (jh 2 _ rfl r 40 rfl 34 _ kr (na2 _) _ rfl) (sv 9 (vFa) (uS 2 _ _ _ rfl ((c : Nat) : Int) 4611686018427387904 rfl rfl false (by first | exact decide_eq_true (by omega) | exact decide_eq_false (by omega)) _) ?_))))
  refine mv 10 (vFa) (ji 11 rfl rfl y5 rfl (iK i) (rfl) (ji 12 rfl rfl y5 rfl (pK r 38) (rfl) ?_))
  refine nr ?_; intro U h; simp only [z0, z1] at h; subst h
  refine ji 13 rfl rfl y5 rfl (pK r 38) (jj _ rfl _ rfl) (ji 14 rfl rfl y5 rfl (pK r 40) (jd 32 _ 2 rfl _ _ rfl _) (ji 15 rfl rfl y5 rfl (iK ((c : Nat) : Int)) (jh 2 _ rfl r 40 rfl 34 _ kr (na2 _) _ rfl) (ji 16 rfl rfl y5 rfl (iK ((c + 1 : Nat) : Int)) (jZ 2 _ _ _ rfl ((c : Nat) : Int) 1 ((c + 1 : Nat) : Int) rfl rfl (by omega) (by omega) (by omega) _) (ji 17 rfl rfl y5 rfl (vFa) (jP 2 .i64 _ _ _ rfl Try.underlying2 i ((c + 1 : Nat) : Int) rfl rfl false (decide_eq_true (by omega)) _) ?_))))
  refine mv 18 (vFa) (wpList_nil (jc (wp_cond_false rfl (wp_skip (jc (wp_seq (wp_region_lit (mv 19 (pK r 38) (mv 20 (iK i) (sv 21 (pK r 38) (jj _ rfl _ rfl) ?_))))))))))
  refine nr ?_; intro U h; simp only [z0, z1] at h; subst h
  refine sv 22 (pK r 40) (jd 32 _ 2 rfl _ _ rfl _) ?_
  refine jn rfl rfl 2 _ _ rfl r 40 rfl (iK i) rfl 34 _ kr #[iK i] rfl (by kernel_rfl) (nlB rfl) (by kernel_rfl) (c34 id up op mi mn pi pn oth ⟨so, u.length, sc⟩ ((k : Nat) : Int) i) (by kernel_rfl) ?_
  intro w2 St
  replace GG := GG.st St (.inr (by simp))
  replace kr := St.new
  clear St
  refine wpList_nil (jc (wp_seq (wp_region_lit (mv 4 (vTr) (wpList_nil (jc (wp_ret ?_)))))))
  refine bodyPost_ret (results_tmp Try.results47 _ _ _) rfl ?_
  have hi2 : i = ((c + 1 : Nat) : Int) := by omega
  rw [hi2] at kr
  exact ⟨rfl, GG, H.keep1 GG kr⟩
theorem Zt (w : World) (r B : Nat) (id : Nat → Nat) (up op : Bool) (mi mn pi pn : Int) (oth : Nat → Nat) (so : Option Addr) (sc : Nat) (u : List RV) (k c : Nat) (H : WX 34 (c34 id up op mi mn pi pn oth ⟨so, u.length, sc⟩ ((k : Nat) : Int) ((c : Nat) : Int)) w r B so sc u) (_hk : k ≤ u.length) (hu : u.length ≤ 100000) (_hc : c ≤ 100000) (ao : Option Addr) (cap : Nat) (l : List Nat) (HB : NC w .u8 ao cap l) (hne : ∀ ad, ao = some ad → 0 < l.length → ad.block ∉ blk so) (hl : l.length ≤ 140737488355000) : Calls Try.prog 41 #[pK r 38, .slice ao l.length cap] w fun e w' => ∃ ao2 cap2 y, e = .returned (iK (((u ++ [y]).length : Nat) : Int)) ∧ y.l = l ∧ GroS (r :: blk so) w w' ∧ WX 34 (c34 id up op mi mn pi pn oth ⟨ao2, (u ++ [y]).length, cap2⟩ ((k : Nat) : Int) ((c : Nat) : Int)) w' r B ao2 cap2 (u ++ [y]) ∧ OB w' 5 .u8 w.heap.size y.ao y.cap y.l ∧ Kept w.heap.size so ao2 := by
  refine jp Try.func41 rfl Try.ntmps41 [pK r 38, .slice ao l.length cap] ?_
  intro U h; simp only [List.length_cons, List.length_nil, List.cons_append, List.nil_append, Nat.reduceAdd, Nat.reduceSub, List.reduceReplicate] at h; subst h
  have GG := GroS.refl (r :: blk so) w
  have kr := H.box
  have hpl := H.lt
  have hBl := H.bl
  refine wp_seq (wp_region_lit (mv 4 (iK 0) (wpList_nil (jc (wp_seq ?_)))))
  refine yL (A := ?Ag4) (blk so) 10 [(0, 5), (1, 6), (2, 7), (3, 8), (4, 9), (5, 10), (6, 11), (7, 12), (8, 13), (9, 14)] [.val (pK r 38), .val (pK r 38), .val (pK r 38), .val (pK r 38), .val (.slice so u.length sc), zoE w.heap.size, .val (.slice ao l.length cap), ocE w.heap.size l, bsE w.heap.size l, ptE w.heap.size B so u l] 9 follows (by kernel_rfl) rfl (by decide) (fun j hj hne v a b _ hb hp => match j, hj, hne, hp with | 0, _, _, hp => hp | 1, _, _, hp => hp | 2, _, _, hp => hp | 3, _, _, hp => hp | 4, _, _, hp => hp | 5, _, _, hp => Exists.elim hp fun g hp => ⟨g, hp.1, hp.2.1, hb.has hp.2.2 (vN H.row rfl hp.2.1)⟩ | 6, _, _, hp => hp | 7, _, _, hp => Exists.elim hp fun a hp => Exists.elim hp fun c hp => ⟨a, c, hp.1, Zf H.row rfl hb hp.2⟩ | 8, _, _, hp => Exists.elim hp fun y hp => Exists.elim hp fun h hp => ⟨y, h, hp.1, hp.2.1, hp.2.2.1, Zf H.row rfl hb hp.2.2.2.1, hb.has hp.2.2.2.2 (vN H.row rfl hp.2.1)⟩ | 9, _, hne, _ => absurd rfl hne | m + 10, hj, _, _ => absurd hj (by omega)) ?hAg4 (zH (by decide) ?o0g4 (zH (by decide) ?o1g4 (zH (by decide) ?o2g4 (zH (by decide) ?o3g4 (zH (by decide) ?o4g4 (zH (by decide) ?o5g4 (zH (by decide) ?o6g4 (zH (by decide) ?o7g4 (zH (by decide) ?o8g4 (Yj ?o9g4 Jf)))))))))) ?restg4
  case hAg4 =>
    intro ptrs
    simp only [full, foldSlots, filledE, postE, List.foldl_cons, List.foldl_nil, List.getD_cons_zero, List.getD_cons_succ, jr, Zj, Zl, Zm, Zk,  List.set_cons_zero, List.set_cons_succ]
    exact rfl
  case o0g4 => exact fun _ _ _ _ => jg (v := pK r 38) _ rfl rfl rfl
  case o1g4 => exact fun _ _ _ _ => jg (v := pK r 38) _ rfl rfl rfl
  case o2g4 => exact fun _ _ hw _ => jb (v := pK r 38) rfl (jj _ rfl _ rfl)
  case o3g4 => exact fun _ _ hw _ => jb (v := pK r 38) rfl (jd 32 _ 0 rfl _ _ rfl _)
  case o4g4 => exact fun _ _ hw _ => jb (v := .slice so u.length sc) rfl (jh 30 _ rfl r 38 rfl 34 _ (hw.has kr (H.ne)) (na30 _) _ rfl)
  case o5g4 =>
    intro ptrs x hw hE
    exact yz _ rfl (yP 36 0 _ rfl [] rfl (by kernel_rfl)) (zm _ _) ⟨x.heap.size, rfl, hw.size, heap_alloc_new _ _⟩
  case o6g4 => exact fun _ _ _ _ => jg (v := .slice ao l.length cap) _ rfl rfl rfl
  case o7g4 =>
    intro ptrs x hw hE
    exact Ji (v := ptrs 5) rfl _ _ rfl rfl hE.1 rfl (hw.nc (HB.gro (Gro.refl _).drew) hne) hl hw.size
  case o8g4 =>
    intro ptrs x hw hE
    obtain ⟨⟨a, c, hv, h1⟩, _⟩ := hE
    exact yz _ rfl (yP 30 1 _ rfl [(0, .slice a l.length c)] (by exact congrArg (fun v => [(0, v)]) hv) (by kernel_rfl)) (zm _ _) ⟨⟨a, c, l⟩, x.heap.size, rfl, hw.size, rfl, h1.gro (zm _ _), heap_alloc_new _ _⟩
  case o9g4 =>
    intro ptrs x hw hE
    exact Zc (v := ptrs 8) _ _ rfl rfl H.row rfl hBl (by omega) ((Gro.refl _).drew.trans hw) rfl rfl hE.1
  intro ptrs w1 GS hxE
  simp only [List.drop_succ_cons, List.drop_zero]
  obtain ⟨_, _, _, ⟨ao2, cap2, y, hv, hyl, HY, HR, hkp⟩, _⟩ := hxE
  simp only [hv]
  have HF : ∀ x ∈ u, OB _ 5 .u8 B x.ao x.cap x.l := fun x hx => (H.fr x hx).gros (S := blk so) ((GroS.refl _ w).drew.trans GS) (fun ad ha hm => H.f5 H.own x hx ad ha (List.mem_cons_of_mem _ hm))
  replace kr := GS.has kr H.ne
  replace GG := GG.drew.trans (GS.mono (T := r :: blk so) (fun x hx => List.mem_cons_of_mem _ hx))
  have hp2 : r ∉ blk ao2 := HR.ne kr (by decide)
  clear GS hv
  have hyp : ∀ ad, y.ao = some ad → ad.block ≠ r := fun ad ha e => by have := (HY.ge ad ha).1; omega
  refine sv 15 (pK r 38) (jj _ rfl _ rfl) (sv 16 (pK r 38) (jd 32 _ 0 rfl _ _ rfl _) ?_)
  refine jn rfl rfl 30 _ _ rfl r 38 rfl (.slice ao2 ((u ++ [y]).length) cap2) rfl 34 _ kr #[.slice ao2 ((u ++ [y]).length) cap2] rfl (by kernel_rfl) (nlB rfl) (by kernel_rfl) (c34 id up op mi mn pi pn oth ⟨ao2, (u ++ [y]).length, cap2⟩ ((k : Nat) : Int) ((c : Nat) : Int)) (by kernel_rfl) ?_
  intro w3 St
  replace HR := HR.st St hp2
  replace HY := HY.apart St hyp
  replace HF := fun x hx => (HF x hx).apart St (fun ad ha e => by obtain ⟨cur, hc⟩ := (HF x hx).blk5 ha; exact jJ hc kr (by decide) e)
  replace GG := GG.st St (.inr (by simp))
  replace kr := St.new
  clear St
  refine wpList_nil (jc (wp_seq (wp_region_lit (mv 17 (pK r 38) (sv 18 (pK r 38) (jj _ rfl _ rfl) (sv 19 (pK r 38) (jd 32 _ 0 rfl _ _ rfl _) (sv 20 (.slice ao2 ((u ++ [y]).length) cap2) (jh 30 _ rfl r 38 rfl 34 _ kr (na30 _) _ rfl) (sv 21 (iK (((u ++ [y]).length : Nat) : Int)) (jM Try.underlying30 _ rfl _ _ _ rfl _) ?_))))))))
  refine mv 4 (iK (((u ++ [y]).length : Nat) : Int)) ?_
  refine nr ?_; intro U h; simp only [z0, z1] at h; subst h
  refine wpList_nil (jc (wp_ret ?_))
  refine bodyPost_ret (results_tmp Try.results41 _ _ _) rfl ?_
  refine ⟨ao2, cap2, y, rfl, hyl, GG, ⟨kr, HR, fun x hx => ?_, H.base, fun x hx => ?_, H.ty⟩, HY, hkp⟩
  rcases List.mem_append.1 hx with hx | hx
  exact HF x hx
  cases List.mem_singleton.1 hx
  exact HY.mono hBl
  rcases List.mem_append.1 hx with hx | hx
  exact H.sm x hx
  cases List.mem_singleton.1 hx
  rw [hyl]; exact hl
theorem Yb (w : World) (r B : Nat) (id : Nat → Nat) (op : Bool) (mi mn pi pn : Int) (oth : Nat → Nat) (so : Option Addr) (sc : Nat) (u : List RV) (k c : Nat) (H : WX 34 (c34 id true op mi mn pi pn oth ⟨so, u.length, sc⟩ ((k : Nat) : Int) ((c : Nat) : Int)) w r B so sc u) (ni nn : Int) : Calls Try.prog 11 #[pK r 0, .agg (c29 ni nn)] w fun e w' => e = .returned (.slice none 0 0) ∧ Gro w w' := by
  refine jp Try.func11 rfl Try.ntmps11 [pK r 0, .agg (c29 ni nn)] ?_
  intro U h; simp only [List.length_cons, List.length_nil, List.cons_append, List.nil_append, Nat.reduceAdd, Nat.reduceSub, List.reduceReplicate] at h; subst h
  have GG := Gro.refl w
  have kr := H.box
  have hpl := H.lt
  have hBl := H.bl
  refine wp_seq (wp_region_lit ?_)
  refine jB 3 rfl rfl 29 _ rfl _ rfl (c29 ni nn) rfl ?_
  intro w1 g1 G eg1 kg1
  have bg1 := jm GG eg1
  have drg1 := je kr eg1
  replace kr := G.has kr
  replace GG := GG.trans G
  clear G eg1
  refine mv 4 (.slice none 0 0) (wpList_nil (jc (wp_seq (wp_seq (wp_region_lit (mv 6 (pK r 0) (sv 7 (pK r 0) (jj _ rfl _ rfl) (sv 8 (pK r 16) (jd 34 _ 1 rfl _ _ rfl _) (sv 9 (vTr) (jh 4 _ rfl r 16 rfl 34 _ kr (na4 _) _ rfl) ?_)))))))))
  refine wpList_nil (jc (wp_cond_true rfl (wp_seq (wp_region_lit (mv 4 (.slice none 0 0) (wpList_nil (jc (wp_ret (jC ?_)))))))))
  refine bodyPost_ret (results_tmp Try.results11 _ _ _) rfl ?_
  exact ⟨rfl, GG⟩
theorem JD (w : World) (r B : Nat) (id : Nat → Nat) (op : Bool) (mi mn pi pn : Int) (oth : Nat → Nat) (so : Option Addr) (sc : Nat) (u : List RV) (k c : Nat) (H : WX 34 (c34 id false op mi mn pi pn oth ⟨so, u.length, sc⟩ ((k : Nat) : Int) ((c : Nat) : Int)) w r B so sc u) (ni nn : Int) : Calls Try.prog 11 #[pK r 0, .agg (c29 ni nn)] w fun e w' => ∃ g, e = .returned (.slice (some ⟨g, 0, none⟩) 1 1) ∧ GroS [r] w w' ∧ WX 34 (c34 id true false ni nn 0 0 zF ⟨none, ([] : List RV).length, 0⟩ ((0 : Nat) : Int) ((0 : Nat) : Int)) w' r B none 0 [] ∧ w'.heap[g]? = some (.cells (c46 1 zF 0 false id zF 0 ni nn 0 0 Sl.nil Sl.nil zF 0 zF Sl.nil 0 0 Sl.nil) 46 (0, 0)) ∧ w.heap.size ≤ g := by
  refine jp Try.func11 rfl Try.ntmps11 [pK r 0, .agg (c29 ni nn)] ?_
  intro U h; simp only [List.length_cons, List.length_nil, List.cons_append, List.nil_append, Nat.reduceAdd, Nat.reduceSub, List.reduceReplicate] at h; subst h
  have GG := GroS.refl [r] w
  have kr := H.box
  have hpl := H.lt
  have hBl := H.bl
  refine wp_seq (wp_region_lit ?_)
  refine jB 3 rfl rfl 29 _ rfl _ rfl (c29 ni nn) rfl ?_
  intro w1 g1 G eg1 kg1
  have bg1 := jl GG eg1
  have drg1 := je kr eg1
  replace kr := G.has kr
  replace GG := GG.tg G
  clear G eg1
  refine mv 4 (.slice none 0 0) (wpList_nil (jc (wp_seq (wp_seq (wp_region_lit (mv 6 (pK r 0) (sv 7 (pK r 0) (jj _ rfl _ rfl) (sv 8 (pK r 16) (jd 34 _ 1 rfl _ _ rfl _) (sv 9 (vFa) (jh 4 _ rfl r 16 rfl 34 _ kr (na4 _) _ rfl) ?_)))))))))
  refine wpList_nil (jc (wp_cond_false rfl (wp_skip (jc (wp_seq (wp_region_lit (mv 10 (pK r 0) (sv 11 (pK r 0) (jj _ rfl _ rfl) (sv 12 (pK r 0) (jd 34 _ 0 rfl _ _ rfl _) ?_)))))))))
  refine nr ?_; intro U h; simp only [z0, z1] at h; subst h
  refine sv 13 (.agg (c23 id)) (jf 23 _ rfl r 0 16 rfl 34 _ kr _ Try.underlying23 rfl si23 _) ?_
  refine jq 5 rfl rfl 23 rfl _ zv23 _ rfl ?_
  intro w2 g2 G eg2 kg2
  have bg2 := jl GG eg2
  have drg2 := je kr eg2
  have dg1g2 := je kg1 eg2
  replace kr := G.has kr
  replace kg1 := G.has kg1
  replace GG := GG.tg G
  clear G eg2
  refine jn rfl rfl 23 _ _ rfl g2 0 rfl (.agg (c23 id)) rfl 23 _ kg2 (c23 id) rfl (by kernel_rfl) (nlB rfl) (by kernel_rfl) (c23 id) (by kernel_rfl) ?_
  intro w4 St
  replace kr := St.has (by omega) kr
  replace kg1 := St.has (by omega) kg1
  replace GG := GG.st St (.inl bg2)
  replace kg2 := St.new
  clear St
  refine wpList_nil (jc (wp_seq (wp_region_lit (mv 14 (pK r 0) (sv 15 (.agg (c23 id)) (jf 23 _ rfl g2 0 16 rfl 23 _ kg2 _ Try.underlying23 rfl si23 _) (sv 16 (.agg (c29 ni nn)) (jf 29 _ rfl g1 0 2 rfl 29 _ kg1 _ Try.underlying29 rfl si29 _) (sv 17 (.agg (c34 id true false ni nn 0 0 zF Sl.nil 0 0)) (jy 34 _ rfl [(0, .agg (c23 id)), (1, vTr), (3, .agg (c29 ni nn))] rfl _ (by kernel_rfl)) (sv 18 (pK r 0) (jj _ rfl _ rfl) ?_))))))))
  refine jn rfl rfl 34 _ _ rfl r 0 rfl (.agg (c34 id true false ni nn 0 0 zF Sl.nil 0 0)) rfl 34 _ kr (c34 id true false ni nn 0 0 zF Sl.nil 0 0) rfl (by kernel_rfl) (nlB rfl) (by kernel_rfl) (c34 id true false ni nn 0 0 zF Sl.nil 0 0) (by kernel_rfl) ?_
  intro w6 St
  replace kg1 := St.has (by omega) kg1
  replace kg2 := St.has (by omega) kg2
  replace GG := GG.st St (.inr (by simp))
  replace kr := St.new
  clear St
  refine wpList_nil (jc (wp_seq (wp_region_lit (mv 19 (pK r 0) ?_))))
  refine jz 20 rfl rfl _ 36 Try.call36 rfl rfl _ rfl [pK r 0] rfl (zE _ r B id true false ni nn 0 0 zF none 0 [] 0 0 (WX.new kr H.base (by decide))) ?_
  intro w7 G
  replace kr := G.has kr
  replace kg1 := G.has kg1
  replace kg2 := G.has kg2
  replace GG := GG.tg G
  clear G
  refine nr ?_; intro U h; simp only [z0, z1] at h; subst h
  refine zk 21 rfl rfl 50 1 _ rfl [(0, .agg (c46 1 zF 0 false id zF 0 ni nn 0 0 Sl.nil Sl.nil zF 0 zF Sl.nil 0 0 Sl.nil))] rfl (c46 1 zF 0 false id zF 0 ni nn 0 0 Sl.nil Sl.nil zF 0 zF Sl.nil 0 0 Sl.nil) 46 (by kernel_rfl) ?_
  intro w8 g3 G eg3 kg3
  have bg3 := jl GG eg3
  have drg3 := je kr eg3
  have dg1g3 := je kg1 eg3
  have dg2g3 := je kg2 eg3
  replace kr := G.has kr
  replace kg1 := G.has kg1
  replace kg2 := G.has kg2
  replace GG := GG.tg G
  clear G eg3
  refine mv 4 (.slice (some ⟨g3, 0, none⟩) 1 1) (wpList_nil (jc (wp_ret ?_)))
  refine bodyPost_ret (results_tmp Try.results11 _ _ _) rfl ?_
  exact ⟨_, rfl, GG, WX.new kr H.base (by decide), kg3, bg3⟩
theorem Zw (w : World) (r B : Nat) (id : Nat → Nat) (up op : Bool) (mi mn pi pn : Int) (oth : Nat → Nat) (so : Option Addr) (sc : Nat) (u : List RV) (k c : Nat) (H : WX 34 (c34 id up op mi mn pi pn oth ⟨so, u.length, sc⟩ ((k : Nat) : Int) ((c : Nat) : Int)) w r B so sc u) : Calls Try.prog 13 #[pK r 0] w fun e w' => e = .returned (.bool op) ∧ GroS [r] w w' ∧ WX 34 (c34 id false false 0 0 0 0 zF ⟨none, ([] : List RV).length, 0⟩ ((0 : Nat) : Int) ((0 : Nat) : Int)) w' r B none 0 [] := by
  refine jK Try.func13 rfl Try.ntmps13 [pK r 0] [pK r 0, undef, undef, undef, undef, undef, undef, undef, undef, undef, undef, undef, undef, undef, undef, undef, undef, undef] rfl ?_
  have GG := GroS.refl [r] w
  have kr := H.box
  have hpl := H.lt
  have hBl := H.bl
  refine wp_seq (wp_region_lit (mv 2 (vFa) (wpList_nil (jc (wp_seq ?_)))))
  refine jk (A := ?Ax5) 10 [(0, 5), (1, 6), (2, 7), (3, 8), (4, 9), (5, 10), (6, 11), (7, 12), (8, 4), (9, 3)] [.val (pK r 0), .val (pK r 0), .val (pK r 17), .val (.bool op), .val (pK r 0), .val (pK r 0), .val (pK r 0), .val (.agg (c23 id)), alE w.heap.size 23 (c23 zF), .val (.bool op)] follows (by kernel_rfl) rfl ?hAx5 (ja ?o0x5 (ja ?o1x5 (ja ?o2x5 (ja ?o3x5 (ja ?o4x5 (ja ?o5x5 (ja ?o6x5 (ja ?o7x5 (ja ?o8x5 (ja ?o9x5 jw)))))))))) ?restx5
  case hAx5 =>
    intro ptrs
    simp only [full, foldSlots, filledE, postE, List.foldl_cons, List.foldl_nil, List.getD_cons_zero, List.getD_cons_succ, jr, vo, List.set_cons_zero, List.set_cons_succ]
    exact rfl
  case o0x5 => exact fun _ _ _ _ => jg (v := pK r 0) _ rfl rfl rfl
  case o1x5 => exact fun _ _ hw _ => jb (v := pK r 0) rfl (jj _ rfl _ rfl)
  case o2x5 => exact fun _ _ hw _ => jb (v := pK r 17) rfl (jd 34 _ 2 rfl _ _ rfl _)
  case o3x5 => exact fun _ _ hw _ => jb (v := .bool op) rfl (jh 4 _ rfl r 17 rfl 34 _ (hw.has kr) (na4 _) _ rfl)
  case o4x5 => exact fun _ _ _ _ => jg (v := pK r 0) _ rfl rfl rfl
  case o5x5 => exact fun _ _ hw _ => jb (v := pK r 0) rfl (jj _ rfl _ rfl)
  case o6x5 => exact fun _ _ hw _ => jb (v := pK r 0) rfl (jd 34 _ 0 rfl _ _ rfl _)
  case o7x5 => exact fun _ _ hw _ => jb (v := .agg (c23 id)) rfl (jf 23 _ rfl r 0 16 rfl 34 _ (hw.has kr) _ Try.underlying23 rfl si23 _)
  case o8x5 =>
    intro ptrs x hw hE
    exact uu rfl 23 rfl _ (zv23 _) (c23 zF) rfl (GG.drew.tg hw).size
  case o9x5 => exact fun _ _ _ _ => yj (v := .bool op) _ rfl rfl rfl
  intro ptrs w1 GD hxE
  simp only [List.drop_succ_cons, List.drop_zero]
  replace kr := GD.has kr
  replace GG := GG.drew.tg GD
  obtain ⟨⟨gi, hv, bgi, kgi⟩, _⟩ := hxE
  simp only [hv]
  clear hv
  have drgi : r < gi := by omega
  clear GD
  refine jn rfl rfl 23 _ _ rfl gi 0 rfl (.agg (c23 id)) rfl 23 _ kgi (c23 id) rfl (by kernel_rfl) (nlB rfl) (by kernel_rfl) (c23 id) (by kernel_rfl) ?_
  intro w3 St
  replace kr := St.has (by omega) kr
  replace GG := GG.st St (.inl bgi)
  replace kgi := St.new
  clear St
  refine wpList_nil (jc (wp_seq (wp_region_lit (mv 13 (pK r 0) (sv 14 (.agg (c23 id)) (jf 23 _ rfl gi 0 16 rfl 23 _ kgi _ Try.underlying23 rfl si23 _) (sv 15 (.agg (c34 id false false 0 0 0 0 zF Sl.nil 0 0)) (jy 34 _ rfl [(0, .agg (c23 id))] rfl _ (by kernel_rfl)) (sv 16 (pK r 0) (jj _ rfl _ rfl) ?_)))))))
  refine jn rfl rfl 34 _ _ rfl r 0 rfl (.agg (c34 id false false 0 0 0 0 zF Sl.nil 0 0)) rfl 34 _ kr (c34 id false false 0 0 0 0 zF Sl.nil 0 0) rfl (by kernel_rfl) (nlB rfl) (by kernel_rfl) (c34 id false false 0 0 0 0 zF Sl.nil 0 0) (by kernel_rfl) ?_
  intro w5 St
  replace kgi := St.has (by omega) kgi
  replace GG := GG.st St (.inr (by simp))
  replace kr := St.new
  clear St
  refine wpList_nil (jc (wp_seq (wp_region_lit (mv 17 (.bool op) (mv 2 (.bool op) (wpList_nil (jc (wp_ret ?_))))))))
  refine bodyPost_ret (results_tmp Try.results13 _ _ _) rfl ?_
  exact ⟨rfl, GG, WX.new kr H.base (by decide)⟩
theorem JB (w : World) (r B : Nat) (id : Nat → Nat) (up : Bool) (mi mn pi pn : Int) (oth : Nat → Nat) (so : Option Addr) (sc : Nat) (u : List RV) (k c : Nat) (H : WX 34 (c34 id up false mi mn pi pn oth ⟨so, u.length, sc⟩ ((k : Nat) : Int) ((c : Nat) : Int)) w r B so sc u) (ao : Option Addr) (cap : Nat) (l : List Nat) : Calls Try.prog 17 #[pK r 0, .slice ao l.length cap] w fun e w' => e = .returned (.tuple #[.agg (c46 0 zF 0 false zF zF 0 0 0 0 0 Sl.nil Sl.nil zF 0 zF Sl.nil 0 0 Sl.nil), iK 10]) ∧ Gro w w' := by
  refine jp Try.func17 rfl Try.ntmps17 [pK r 0, .slice ao l.length cap] ?_
  intro U h; simp only [List.length_cons, List.length_nil, List.cons_append, List.nil_append, Nat.reduceAdd, Nat.reduceSub, List.reduceReplicate] at h; subst h
  have GG := Gro.refl w
  have kr := H.box
  have hpl := H.lt
  have hBl := H.bl
  refine wp_seq (wp_region_lit ?_)
  refine jq 4 rfl rfl 46 rfl _ zv46 _ rfl ?_
  intro w1 g1 G eg1 kg1
  have bg1 := jm GG eg1
  have drg1 := je kr eg1
  replace kr := G.has kr
  replace GG := GG.trans G
  clear G eg1
  refine mv 5 (iK 0) (wpList_nil (jc (wp_seq (wp_seq (wp_region_lit (mv 7 (pK r 0) (sv 8 (pK r 0) (jj _ rfl _ rfl) (sv 9 (pK r 17) (jd 34 _ 2 rfl _ _ rfl _) (sv 10 (vFa) (jh 4 _ rfl r 17 rfl 34 _ kr (na4 _) _ rfl) ?_)))))))))
  refine sv 11 (vTr) (jE _ _ rfl false rfl) (wpList_nil (jc (wp_cond_true rfl (wp_seq (wp_region_lit (sv 12 (.agg (c46 0 zF 0 false zF zF 0 0 0 0 0 Sl.nil Sl.nil zF 0 zF Sl.nil 0 0 Sl.nil)) (jy 46 _ rfl [] rfl _ (by kernel_rfl)) ?_))))))
  refine jn rfl rfl 46 _ _ rfl g1 0 rfl (.agg (c46 0 zF 0 false zF zF 0 0 0 0 0 Sl.nil Sl.nil zF 0 zF Sl.nil 0 0 Sl.nil)) rfl 46 _ kg1 (c46 0 zF 0 false zF zF 0 0 0 0 0 Sl.nil Sl.nil zF 0 zF Sl.nil 0 0 Sl.nil) rfl (by kernel_rfl) (nlB rfl) (by kernel_rfl) (c46 0 zF 0 false zF zF 0 0 0 0 0 Sl.nil Sl.nil zF 0 zF Sl.nil 0 0 Sl.nil) (by kernel_rfl) ?_
  intro w3 St
  replace kr := St.has (by omega) kr
  replace GG := GG.store St bg1
  replace kg1 := St.new
  clear St
  refine mv 5 (iK 10) ?_
  refine nr ?_; intro U h; simp only [z0, z1] at h; subst h
  refine wpList_nil (jc (wp_ret (jC ?_)))
  refine bodyPost_ret (jF Try.results17 _ _ g1 46 _ (0, 0) _ rfl (iK 10) rfl kg1 Try.underlying46 rfl (by kernel_rfl)) rfl ?_
  exact ⟨rfl, GG⟩
theorem JC (w : World) (r B : Nat) (id : Nat → Nat) (up : Bool) (mi mn pi pn : Int) (oth : Nat → Nat) (so : Option Addr) (sc : Nat) (u : List RV) (k c : Nat) (H : WX 34 (c34 id up true mi mn pi pn oth ⟨so, u.length, sc⟩ ((k : Nat) : Int) ((c : Nat) : Int)) w r B so sc u) (ao : Option Addr) (cap : Nat) (l : List Nat) (hl : 4096 < l.length) : Calls Try.prog 17 #[pK r 0, .slice ao l.length cap] w fun e w' => e = .returned (.tuple #[.agg (c46 0 zF 0 false zF zF 0 0 0 0 0 Sl.nil Sl.nil zF 0 zF Sl.nil 0 0 Sl.nil), iK 4]) ∧ Gro w w' := by
  refine jp Try.func17 rfl Try.ntmps17 [pK r 0, .slice ao l.length cap] ?_
  intro U h; simp only [List.length_cons, List.length_nil, List.cons_append, List.nil_append, Nat.reduceAdd, Nat.reduceSub, List.reduceReplicate] at h; subst h
  have GG := Gro.refl w
  have kr := H.box
  have hpl := H.lt
  have hBl := H.bl
  refine wp_seq (wp_region_lit ?_)
  refine jq 4 rfl rfl 46 rfl _ zv46 _ rfl ?_
  intro w1 g1 G eg1 kg1
  have bg1 := jm GG eg1
  have drg1 := je kr eg1
  replace kr := G.has kr
  replace GG := GG.trans G
  clear G eg1
  refine mv 5 (iK 0) (wpList_nil (jc (wp_seq (wp_seq (wp_region_lit (mv 7 (pK r 0) (sv 8 (pK r 0) (jj _ rfl _ rfl) (sv 9 (pK r 17) (jd 34 _ 2 rfl _ _ rfl _) (sv 10 (vTr) (jh 4 _ rfl r 17 rfl 34 _ kr (na4 _) _ rfl) ?_)))))))))
  refine sv 11 (vFa) (jE _ _ rfl true rfl) (wpList_nil (jc (wp_cond_false rfl (wp_skip (jc (wp_seq (wp_seq (wp_region_lit (mv 13 (.slice ao l.length cap) (sv 14 (iK ((l.length : Nat) : Int)) (jM Try.underlying36 _ rfl _ _ _ rfl _) ?_))))))))))
  refine nr ?_; intro U h; simp only [z0, z1] at h; subst h
  refine sv 15 (vTr) (jS 3 _ _ _ rfl ((l.length : Nat) : Int) 4096 rfl rfl true (by first | exact decide_eq_true (by omega) | exact decide_eq_false (by omega)) _) (wpList_nil (jc (wp_cond_true rfl (wp_seq (wp_region_lit (sv 16 (.agg (c46 0 zF 0 false zF zF 0 0 0 0 0 Sl.nil Sl.nil zF 0 zF Sl.nil 0 0 Sl.nil)) (jy 46 _ rfl [] rfl _ (by kernel_rfl)) ?_))))))
  refine jn rfl rfl 46 _ _ rfl g1 0 rfl (.agg (c46 0 zF 0 false zF zF 0 0 0 0 0 Sl.nil Sl.nil zF 0 zF Sl.nil 0 0 Sl.nil)) rfl 46 _ kg1 (c46 0 zF 0 false zF zF 0 0 0 0 0 Sl.nil Sl.nil zF 0 zF Sl.nil 0 0 Sl.nil) rfl (by kernel_rfl) (nlB rfl) (by kernel_rfl) (c46 0 zF 0 false zF zF 0 0 0 0 0 Sl.nil Sl.nil zF 0 zF Sl.nil 0 0 Sl.nil) (by kernel_rfl) ?_
  intro w3 St
  replace kr := St.has (by omega) kr
  replace GG := GG.store St bg1
  replace kg1 := St.new
  clear St
  refine mv 5 (iK 4) (wpList_nil (jc (wp_ret (jC ?_))))
  refine bodyPost_ret (jF Try.results17 _ _ g1 46 _ (0, 0) _ rfl (iK 4) rfl kg1 Try.underlying46 rfl (by kernel_rfl)) rfl ?_
  exact ⟨rfl, GG⟩
theorem uz {a b : World} (h : Gro a b) : Gro a b := h
theorem Ya (w : World) (r B : Nat) (id : Nat → Nat) (up : Bool) (mi mn pi pn : Int) (oth : Nat → Nat) (so : Option Addr) (sc : Nat) (u : List RV) (k c : Nat) (H : WX 34 (c34 id up true mi mn pi pn oth ⟨so, u.length, sc⟩ ((k : Nat) : Int) ((c : Nat) : Int)) w r B so sc u) (hk : k ≤ u.length) (hu : u.length ≤ 100000) (hc : c ≤ 100000) (ao : Option Addr) (cap : Nat) (l : List Nat) (HB : NC w .u8 ao cap l) (hne : ∀ ad, ao = some ad → 0 < l.length → ad.block ∉ r :: blk so) (hl : l.length ≤ 4096) : Calls Try.prog 17 #[pK r 0, .slice ao l.length cap] w fun e w' => ∃ ao2 cap2 y ao3 cap3, e = .returned (.tuple #[.agg (c46 2 zF 0 false zF zF (((u ++ [y]).length : Nat) : Int) mi mn pi pn Sl.nil Sl.nil zF 0 zF Sl.nil 0 0 ⟨ao3, l.length, cap3⟩), iK 0]) ∧ OB w' 5 .u8 0 ao3 cap3 l ∧ y.l = l ∧ GroS (r :: blk so) w w' ∧ WX 34 (c34 id up true mi mn pi pn oth ⟨ao2, (u ++ [y]).length, cap2⟩ ((k : Nat) : Int) ((c : Nat) : Int)) w' r B ao2 cap2 (u ++ [y]) ∧ (∀ ad, y.ao = some ad → w.heap.size ≤ ad.block) ∧ Kept w.heap.size so ao2 := by
  refine jp Try.func17 rfl Try.ntmps17 [pK r 0, .slice ao l.length cap] ?_
  intro U h; simp only [List.length_cons, List.length_nil, List.cons_append, List.nil_append, Nat.reduceAdd, Nat.reduceSub, List.reduceReplicate] at h; subst h
  have GG := Gro.refl w
  have kr := H.box
  have hpl := H.lt
  have hBl := H.bl
  have HX := H
  refine wp_seq (wp_region_lit ?_)
  refine jq 4 rfl rfl 46 rfl _ zv46 _ rfl ?_
  intro w1 g1 G eg1 kg1
  have bg1 := jm GG eg1
  have drg1 := je kr eg1
  replace kr := G.has kr
  replace HX := HX.gro G
  replace GG := GG.trans G
  clear G eg1
  refine mv 5 (iK 0) (wpList_nil (jc (wp_seq (wp_seq (wp_region_lit (mv 7 (pK r 0) (sv 8 (pK r 0) (jj _ rfl _ rfl) (sv 9 (pK r 17) (jd 34 _ 2 rfl _ _ rfl _) (sv 10 (vTr) (jh 4 _ rfl r 17 rfl 34 _ kr (na4 _) _ rfl) ?_)))))))))
  refine sv 11 (vFa) (jE _ _ rfl true rfl) (wpList_nil (jc (wp_cond_false rfl (wp_skip (jc (wp_seq (wp_seq (wp_region_lit (mv 13 (.slice ao l.length cap) (sv 14 (iK ((l.length : Nat) : Int)) (jM Try.underlying36 _ rfl _ _ _ rfl _) ?_))))))))))
  refine nr ?_; intro U h; simp only [z0, z1] at h; subst h
  refine sv 15 (vFa) (jS 3 _ _ _ rfl ((l.length : Nat) : Int) 4096 rfl rfl false (by first | exact decide_eq_true (by omega) | exact decide_eq_false (by omega)) _) (wpList_nil (jc (wp_cond_false rfl (wp_skip (jc (wp_seq (wp_region_lit (mv 17 (pK r 0) (sv 18 (pK r 0) (jj _ rfl _ rfl) (sv 19 (pK r 38) (jd 34 _ 6 rfl _ _ rfl _) (mv 20 (.slice ao l.length cap) ?_)))))))))))
  refine jD 21 rfl rfl _ 41 Try.call41 rfl rfl _ rfl [pK r 38, .slice ao l.length cap] rfl (Zt _ r B id up true mi mn pi pn oth so sc u k c HX hk hu hc ao cap l (HB.gro (uz GG)) (fun ad ha h0 hm => hne ad ha h0 (List.mem_cons_of_mem _ hm)) (by omega)) (fun _ _ ⟨_, _, _, he, _⟩ => ⟨_, he⟩) ?_
  rintro v w2 ⟨ao2, cap2, y, he, hyl, G, HX2, HY, hkp⟩
  cases he
  have HN := G.nc (HB.gro (uz GG)) hne
  replace kg1 := G.has kg1 (HX.notT kg1 (by decide) (by decide))
  replace hkp := hkp.mono GG.size
  have hy0 : ∀ ad, y.ao = some ad → w.heap.size ≤ ad.block := fun ad ha => Nat.le_trans GG.size (HY.ge ad ha).1
  have GH := (GroS.of (S := r :: blk so) (uz GG)).trans G
  clear GG
  have GG := GH
  clear GH G HX kr HY
  have kr := HX2.box
  refine mv 6 (iK (((u ++ [y]).length : Nat) : Int)) (wpList_nil (jc (wp_seq (wp_region_lit (mv 22 (pK r 0) (mv 23 (iK (((u ++ [y]).length : Nat) : Int)) ?_))))))
  refine nr ?_; intro U h; simp only [z0, z1] at h; subst h
  refine mv 24 (.slice ao l.length cap) ?_
  refine jD 25 rfl rfl _ 39 Try.call39 rfl rfl _ rfl [pK r 0, iK (((u ++ [y]).length : Nat) : Int), .slice ao l.length cap] rfl (ua _ r B id up true mi mn pi pn oth ao2 cap2 (u ++ [y]) k c HX2 (((u ++ [y]).length : Nat) : Int) ao cap l HN (by omega)) (fun _ _ ⟨_, _, he, _⟩ => ⟨_, he⟩) ?_
  rintro v w3 ⟨ao3, cap3, he, OC, G⟩
  cases he
  replace kr := G.has kr
  replace kg1 := G.has kg1
  replace HX2 := HX2.gro G
  replace GG := GG.tg G
  clear G
  refine jn rfl rfl 46 _ _ rfl g1 0 rfl (.agg (c46 2 zF 0 false zF zF (((u ++ [y]).length : Nat) : Int) mi mn pi pn Sl.nil Sl.nil zF 0 zF Sl.nil 0 0 ⟨ao3, l.length, cap3⟩)) rfl 46 _ kg1 (c46 2 zF 0 false zF zF (((u ++ [y]).length : Nat) : Int) mi mn pi pn Sl.nil Sl.nil zF 0 zF Sl.nil 0 0 ⟨ao3, l.length, cap3⟩) rfl (by kernel_rfl) (nlB rfl) (by kernel_rfl) (c46 2 zF 0 false zF zF (((u ++ [y]).length : Nat) : Int) mi mn pi pn Sl.nil Sl.nil zF 0 zF Sl.nil 0 0 ⟨ao3, l.length, cap3⟩) (by kernel_rfl) ?_
  intro w5 St
  replace kr := St.has (by omega) kr
  replace HX2 := HX2.stT (by decide) (by decide) (by decide) kg1 St
  replace OC := OC.no5 ((GroS.refl [g1] _).st St (.inr (by simp))) (jG kg1 (by decide))
  replace GG := GG.st St (.inl bg1)
  replace kg1 := St.new
  clear St
  refine mv 5 (iK 0) (wpList_nil (jc (wp_ret ?_)))
  refine bodyPost_ret (jF Try.results17 _ _ g1 46 _ (0, 0) _ rfl (iK 0) rfl kg1 Try.underlying46 rfl (by kernel_rfl)) rfl ?_
  exact ⟨ao2, cap2, y, ao3, cap3, rfl, OC, hyl, GG, HX2, hy0, hkp⟩
end Go.Proofs.Ytlfanecaglbomaa
