/- Two ends; the chapter's example; an end that is down (HelloDown). -/
import Derived.Test.YtlfanecaglbomaaEH7
namespace Go.Proofs.Ytlfanecaglbomaa
open Go.RowKit
def Dis (a b : List Nat) : Prop := ∀ k ∈ a, k ∉ b
theorem Dis.symm {a b : List Nat} (h : Dis a b) : Dis b a := fun k h1 h2 => h k h2 h1
theorem Dis.fresh {w : World} {a a' b : List Nat} (h : Dis a b) (F : Fresh w a a') (hb : ∀ g ∈ b, g < w.heap.size) : Dis a' b := fun k h1 h2 => by
  rcases F k h1 with h3 | h3
  · exact h k h3 h2
  · have := hb k h2
    omega
structure EN (B0 : Nat) (w : World) (p : Nat) (id : Nat → Nat) (x : ES) (mu tb : List Nat) : Prop where
  ex : EX w p id x mu tb
  ge : ∀ k ∈ mu, B0 ≤ k
theorem EN.gro {B0 : Nat} {w w' : World} {p : Nat} {id : Nat → Nat} {x : ES} {mu tb : List Nat} (H : EN B0 w p id x mu tb) (G : Gro w w') : EN B0 w' p id x mu tb := ⟨H.ex.gro G, H.ge⟩
theorem EN.next {B0 : Nat} {w w' : World} {p : Nat} {id : Nat → Nat} {x x' : ES} {mu tb mu' tb' : List Nat} (H : EN B0 w p id x mu tb) (hB : B0 ≤ w.heap.size) (HX : EX w' p id x' mu' tb') (F : Fresh w mu mu') : EN B0 w' p id x' mu' tb' :=
  ⟨HX, fun k hk => (F k hk).elim (H.ge k) fun h => Nat.le_trans hB h⟩
theorem EX.of_new {w w' : World} {p wp B : Nat} {id : Nat → Nat} (h1 : w.heap.size ≤ p) (h2 : w.heap.size ≤ wp) (H : EW w' p wp B id false false 0 0 0 0 zF none 0 [] 0 0) : EX w' p id ES.new [p, wp] [] ∧ ∀ k ∈ [p, wp], w.heap.size ≤ k :=
  ⟨⟨wp, B, none, 0, [], H, rfl, rfl, rfl⟩, fun k hk => by
    rcases List.mem_cons.1 hk with rfl | hk
    · exact h1
    · cases List.mem_singleton.1 hk
      exact h2⟩
def Two (B0 : Nat) (w : World) (pa : Nat) (ida : Nat → Nat) (xa : ES) (pb : Nat) (idb : Nat → Nat) (xb : ES) : Prop := ∃ mua tba mub tbb, EN B0 w pa ida xa mua tba ∧ EN B0 w pb idb xb mub tbb ∧ Dis mua mub
section
variable {B0 : Nat} {w w' : World} {pa pb : Nat} {ida idb : Nat → Nat} {xa xb : ES}
theorem Two.symm (H : Two B0 w pa ida xa pb idb xb) : Two B0 w pb idb xb pa ida xa := by
  obtain ⟨mua, tba, mub, tbb, h1, h2, h3⟩ := H
  exact ⟨mub, tbb, mua, tba, h2, h1, h3.symm⟩
theorem Two.gro (H : Two B0 w pa ida xa pb idb xb) (G : Gro w w') : Two B0 w' pa ida xa pb idb xb := by
  obtain ⟨mua, tba, mub, tbb, h1, h2, h3⟩ := H
  exact ⟨mua, tba, mub, tbb, h1.gro G, h2.gro G, h3⟩
theorem Two.gros (H : Two B0 w pa ida xa pb idb xb) {S : List Nat} (G : GroS S w w') (hS : ∀ g ∈ S, ∃ c t', w.heap[g]? = some (.cells c t' (0, 0)) ∧ t' ≠ 98 ∧ t' ≠ 121 ∧ t' ≠ 36 ∧ t' ≠ 5) : Two B0 w' pa ida xa pb idb xb := by
  obtain ⟨mua, tba, mub, tbb, h1, h2, h3⟩ := H
  have h5 : No5 w S := fun g hg => by
    obtain ⟨c, t, h, _, _, _, h5⟩ := hS g hg
    exact ⟨c, t, h, h5⟩
  exact ⟨mua, tba, mub, tbb, ⟨h1.ex.gros G (fun g hg => by obtain ⟨c, t, h, a, b, d, _⟩ := hS g hg; exact h1.ex.not h a b d) h5, h1.ge⟩, ⟨h2.ex.gros G (fun g hg => by obtain ⟨c, t, h, a, b, d, _⟩ := hS g hg; exact h2.ex.not h a b d) h5, h2.ge⟩, h3⟩
theorem Two.stT (H : Two B0 w pa ida xa pb idb xb) {g : Nat} {t' : TypeId} (h98 : t' ≠ 98) (h121 : t' ≠ 121) (h36 : t' ≠ 36) (h5 : t' ≠ 5) {cs : Array Value} {o : Obj} (hg : w.heap[g]? = some (.cells cs t' (0, 0))) (St : Stored w w' g o) : Two B0 w' pa ida xa pb idb xb :=
  H.gros (S := [g]) ((GroS.refl [g] w).st St (.inr (by simp))) fun k hk => by cases List.mem_singleton.1 hk; exact ⟨_, _, hg, h98, h121, h36, h5⟩
theorem Two.fst (H : Two B0 w pa ida xa pb idb xb) (hB : B0 ≤ w.heap.size) : ∃ mu tb, EX w pa ida xa mu tb ∧ (∀ k ∈ mu, B0 ≤ k) ∧ ∀ w' x' mu' tb', EX w' pa ida x' mu' tb' → GroS mu w w' → Fresh w mu mu' → Two B0 w' pa ida x' pb idb xb := by
  obtain ⟨mua, tba, mub, tbb, h1, h2, h3⟩ := H
  exact ⟨mua, tba, h1.ex, h1.ge, fun w' x' mu' tb' h G F => ⟨mu', tb', mub, tbb, h1.next hB h F, ⟨h2.ex.gros G h3 h1.ex.own, h2.ge⟩, h3.fresh F h2.ex.lt⟩⟩
theorem Two.snd (H : Two B0 w pa ida xa pb idb xb) (hB : B0 ≤ w.heap.size) : ∃ mu tb, EX w pb idb xb mu tb ∧ (∀ k ∈ mu, B0 ≤ k) ∧ ∀ w' x' mu' tb', EX w' pb idb x' mu' tb' → GroS mu w w' → Fresh w mu mu' → Two B0 w' pa ida xa pb idb x' := by
  obtain ⟨mu, tb, h1, h2, h3⟩ := H.symm.fst hB
  exact ⟨mu, tb, h1, h2, fun w' x' mu' tb' h G F => (h3 w' x' mu' tb' h G F).symm⟩
end
theorem FV.frs {w : World} {m : PF} {f : Fr} (h : FV w m f) (hl : m.tx.length ≤ 140737488355000) : FrS f := by
  obtain ⟨s1, s2, s3, ao, cap, rfl, h1, h2, h3, h4⟩ := h.eq
  exact ⟨⟨by show s1.n * 8 ≤ _; rw [h1.n]; omega⟩, ⟨by show s2.n * 16 ≤ _; rw [h2.n]; omega⟩, ⟨by show s3.n * 1 ≤ _; rw [h3.n]; omega⟩, ⟨by show m.tx.length * 1 ≤ _; omega⟩⟩
theorem FV.pin {w : World} {m : PF} {f : Fr} (h : FV w m f) : pin f (pfd m) = m := by
  obtain ⟨s1, s2, s3, ao, cap, rfl, _⟩ := h.eq
  rfl
theorem vS (w : World) (p : Nat) (id : Nat → Nat) (x : ES) (mu tb : List Nat) (H : EX w p id x mu tb) (m : PF) (f : Fr) (HF : FV w m f) (hl : m.tx.length ≤ 140737488355000) (ni nn : Int) (hk : x.k + x.q.length ≤ 100000) (hc : x.c + 1 ≤ 100000) : Calls Try.prog 20 #[pK p 0, .agg (frA f), .agg (c29 ni nn)] w (HearP w p id mu tb (hearS id x m ni nn)) := by
  have h := ZZ w p id x mu tb H f (pfd m) HF.frw (HF.frs hl) ni nn hk hc
  rw [HF.pin] at h
  exact h
theorem JW {fs : List (PF × Fr)} {m : PF} (h : fs.map (·.1) = [m]) : ∃ f, fs = [(m, f)] := by
  cases fs with
  | nil => cases h
  | cons y r =>
    obtain ⟨a, f⟩ := y
    cases r with
    | nil =>
      injection h with h1 _
      cases h1
      exact ⟨f, rfl⟩
    | cons z t => cases h
def idK (i v : Nat) : Nat → Nat := fun j => if j = i then v else 0
def lfE (m : PF) : PostE := PostE.ex (fun v x => ∃ ad cap f, v = .slice (some ad) 1 cap ∧ LF x 0 (some ad) cap [(m, f)]) (fun _ _ _ G ⟨a, c, f, h1, h2⟩ => ⟨a, c, f, h1, h2.gro G⟩)
theorem YS (m : PF) (v : Value) : (lfE m).fill v = v := rfl
theorem vR {w w' : World} {p : Nat} {id : Nat → Nat} {mu tb : List Nat} {x : ES} {m : PF} {e : Ending} (h : ListP w p id mu tb (x, [m]) e w') : ∃ ad cap f mu' tb', e = .returned (.slice (some ad) 1 cap) ∧ LF w' 0 (some ad) cap [(m, f)] ∧ EX w' p id x mu' tb' ∧ GroS mu w w' ∧ Fresh w mu mu' ∧ Fresh w tb tb' := by
  obtain ⟨ao, cap, fs, mu', tb', he, hm, HL, h1, h2, h3, h4⟩ := h
  obtain ⟨f, rfl⟩ := JW hm
  obtain ⟨ad, rfl⟩ := HL.some (by simp)
  exact ⟨ad, cap, f, mu', tb', he, HL, h1, h2, h3, h4⟩
theorem vD {w : World} {d o : Bool} {m : PF} {v : Value} (h : TV w ⟨d, o, [], false, [m]⟩ v) : ∃ ao cap ad oc f, v = .agg (c59 d o ⟨ao, 0, cap⟩ false ⟨some ad, 1, oc⟩) ∧ LF w 0 (some ad) oc [(m, f)] := by
  obtain ⟨ao, cap, oo, oc, fs, hv, _, hm, HL⟩ := h
  obtain ⟨f, rfl⟩ := JW hm
  obtain ⟨ad, rfl⟩ := HL.some (by simp)
  exact ⟨ao, cap, ad, oc, f, hv, HL⟩
theorem LF.fst {w : World} {B : Nat} {ao : Option Addr} {cap : Nat} {m : PF} {f : Fr} (h : LF w B ao cap [(m, f)]) : FV w m f := h.fv (m, f) (List.mem_singleton.2 rfl)
set_option maxRecDepth 100000 in
set_option maxHeartbeats 4000000 in
theorem Zp (w : World) : Calls Try.prog 8 #[] w fun e w' => e = .returned (vTr) ∧ Gro w w' := by
  refine jq Try.func8 rfl Try.ntmps8 [] ?_
  intro U h; simp only [List.length_nil, List.nil_append, Nat.reduceSub, List.reduceReplicate] at h; subst h
  have GG := Gro.refl w
  refine wp_seq (wp_region_lit (mv 0 (vFa) ?_))
  refine nr ?_; intro U h; simp only [z0] at h; subst h
  refine wpList_nil (ja (wp_seq (wp_region_lit (sv 11 (.agg (c23 (idK 15 1))) (jA 23 _ rfl [(15, .int .u8 1)] rfl _ (by kernel_rfl)) ?_))))
  refine jt 12 rfl rfl _ 7 Try.call7 rfl rfl _ rfl [.agg (c23 (idK 15 1))] rfl (yh _ (idK 15 1)) (fun _ _ ⟨_, _, he, _⟩ => ⟨_, he⟩) ?_
  rintro v w1 ⟨pa, wa, he, G, hpa, hwa, HEpa⟩
  cases he
  have hs1 := G.size
  replace HEpa := EX.of_new hpa hwa HEpa
  replace HEpa : EN w.heap.size _ _ _ _ _ _ := ⟨HEpa.1, fun k hk => Nat.le_trans GG.size (HEpa.2 k hk)⟩
  replace GG := GG.trans G
  clear G
  refine sv 13 (.agg (c23 (idK 15 2))) (jA 23 _ rfl [(15, .int .u8 2)] rfl _ (by kernel_rfl)) ?_
  refine jt 14 rfl rfl _ 7 Try.call7 rfl rfl _ rfl [.agg (c23 (idK 15 2))] rfl (yh _ (idK 15 2)) (fun _ _ ⟨_, _, he, _⟩ => ⟨_, he⟩) ?_
  rintro v w2 ⟨pb, wb, he, G, hpb, hwb, HEpb⟩
  cases he
  have HEpb2 := EX.of_new hpb hwb HEpb
  have H2 : Two w.heap.size _ pa (idK 15 1) ⟨false, false, 0, 0, 0, 0, zF, 0, [], 0⟩ pb (idK 15 2) ⟨false, false, 0, 0, 0, 0, zF, 0, [], 0⟩ := ⟨_, _, _, _, HEpa.gro G, ⟨HEpb2.1, fun k hk => Nat.le_trans GG.size (HEpb2.2 k hk)⟩, fun k h1 h2 => by have := HEpa.ex.lt k h1; have := HEpb2.2 k h2; omega⟩
  replace GG := GG.trans G
  clear G HEpa HEpb HEpb2
  refine mv 1 (pK pa 0) (mv 2 (pK pb 0) (wpList_nil (ja (wp_seq (wp_seq ?_)))))
  refine jr ?_
  intro OPS hY
  have y2 := hY 2 17 rfl
  clear hY
  refine mv 15 (pK pa 0) (sv 16 (vFa) (ze 25 _ _ _ rfl _ rfl rfl Try.underlying25 _) (mv 17 (vFa) ?_))
  refine nr ?_; intro U h; simp only [z0, z1] at h; subst h
  refine jn 18 rfl rfl y2 rfl (pK pb 0) (rfl) (jn 19 rfl rfl y2 rfl (vFa) (ze 25 _ _ _ rfl _ rfl rfl Try.underlying25 _) (mv 20 (vFa) (wpList_nil (ja (wp_cond_false rfl (wp_skip (ja (wp_seq (wp_region_lit (sv 21 (.agg (c29 1 1)) (jA 29 _ rfl [(0, iK 1), (1, iK 1)] rfl _ (by kernel_rfl)) ?_))))))))))
  refine js 3 rfl rfl 29 rfl _ zv29 _ rfl ?_
  intro w3 g1 G eg1 kg1
  have bg1 := jh GG eg1
  replace H2 := H2.gro G
  replace GG := GG.trans G
  clear G eg1
  refine jo rfl rfl 29 _ _ rfl g1 0 rfl (.agg (c29 1 1)) rfl 29 _ kg1 (c29 1 1) rfl (by kernel_rfl) (nlB rfl) (by kernel_rfl) (c29 1 1) (by kernel_rfl) ?_
  intro w5 St
  replace H2 := H2.stT (by decide) (by decide) (by decide) (by decide) kg1 St
  replace GG := GG.store St bg1
  replace kg1 := St.new
  clear St
  refine wpList_nil (ja (wp_seq ?_))
  refine jJ (A := ?Ap1) (fun L x => Gro w x ∧ x.heap[g1]? = some (.cells (c29 1 1) 29 (0, 0)) ∧ Two w.heap.size x pa (idK 15 1) (cond (L 2) ⟨true, false, 1, 1, 0, 0, zF, 0, [], 0⟩ ⟨false, false, 0, 0, 0, 0, zF, 0, [], 0⟩) pb (idK 15 2) ⟨false, false, 0, 0, 0, 0, zF, 0, [], 0⟩) 5 [(0, 22), (1, 23), (2, 24), (3, 25), (4, 26)] [.val (pK pa 0), .val (.agg (c29 1 1)), lfE ⟨1, (idK 15 1), 1, 1, 0, 0, 0, []⟩, .val (pK pb 0), .val (.agg (c29 1 1))] [] [2] follows (by kernel_rfl) rfl (by kernel_rfl) (by decide) ⟨GG.drew, (Gro.refl _).drew.has kg1, H2.gro (Gro.refl _).drew⟩ ?hAp1 (ji (fun _ _ _ h _ G => ⟨h.1.trans G, G.has h.2.1, h.2.2.gro G⟩) ?o0p1 (ji (fun _ _ _ h _ G => ⟨h.1.trans G, G.has h.2.1, h.2.2.gro G⟩) ?o1p1 (jX ?o2p1 (ji (fun _ _ _ h _ G => ⟨h.1.trans G, G.has h.2.1, h.2.2.gro G⟩) ?o3p1 (ji (fun _ _ _ h _ G => ⟨h.1.trans G, G.has h.2.1, h.2.2.gro G⟩) ?o4p1 zc))))) ?restp1
  case hAp1 =>
    intro ptrs
    simp only [full, foldSlots, filledE, postE, List.foldl_cons, List.foldl_nil, List.getD_cons_zero, List.getD_cons_succ, ju, YS,  List.set_cons_zero, List.set_cons_succ]
    exact rfl
  case o0p1 => exact fun _ _ _ _ _ _ _ _ => jj (v := pK pa 0) _ rfl rfl rfl
  case o1p1 => exact fun _ _ x hx _ _ _ _ => jb (v := .agg (c29 1 1)) rfl (jk 29 _ rfl g1 0 2 rfl 29 _ hx.2.1 _ Try.underlying29 rfl si29 _)
  case o2p1 =>
    intro L ptrs x hx hL hed hno _
    have h2 := hx.2.2
    rw [hL] at h2
    obtain ⟨mu, tb, HM, hge, hnext⟩ := h2.fst hx.1.size
    exact zw (lfE ⟨1, (idK 15 1), 1, 1, 0, 0, 0, []⟩) rfl _ 10 Try.call10 rfl rfl _ rfl [pK pa 0, .agg (c29 1 1)] rfl ((show Calls Try.prog 10 #[_, _] _ (ListP _ pa (idK 15 1) mu tb (⟨true, false, 1, 1, 0, 0, zF, 0, [], 0⟩, [⟨1, (idK 15 1), 1, 1, 0, 0, 0, []⟩])) from ux _ pa (idK 15 1) ⟨false, false, 0, 0, 0, 0, zF, 0, [], 0⟩ mu tb HM 1 1).mono fun e y h => by
      obtain ⟨ad, cap, f, mu', tb', he, HL, HX, G, F1, _⟩ := vR h
      exact ⟨_, he, ⟨⟨G.gro hx.1 hge, G.has hx.2.1 (HM.not hx.2.1 (by decide) (by decide) (by decide)), hnext _ _ _ _ HX G F1⟩, StM.vals [0, 1, 3, 4] (by kernel_rfl) ⟨⟨_, rfl⟩, ⟨_, rfl⟩, ⟨_, rfl⟩, ⟨_, rfl⟩, trivial⟩⟩, ad, cap, f, rfl, HL⟩)
  case o3p1 => exact fun _ _ _ _ _ _ _ _ => jj (v := pK pb 0) _ rfl rfl rfl
  case o4p1 => exact fun _ _ x hx _ _ _ _ => jb (v := .agg (c29 1 1)) rfl (jk 29 _ rfl g1 0 2 rfl 29 _ hx.2.1 _ Try.underlying29 rfl si29 _)
  intro ptrs w6 HJ hxE
  simp only [List.drop_succ_cons, List.drop_zero]
  clear GG kg1 H2
  obtain ⟨GG, kg1, H2⟩ := HJ
  replace H2 : Two w.heap.size w6 pa (idK 15 1) ⟨true, false, 1, 1, 0, 0, zF, 0, [], 0⟩ pb (idK 15 2) ⟨false, false, 0, 0, 0, 0, zF, 0, [], 0⟩ := H2
  obtain ⟨⟨ad1, cap1, f1, hv, HL1⟩, _⟩ := hxE
  simp only [hv]
  clear hv
  obtain ⟨mu, tb, HM, hge, hnext⟩ := H2.snd GG.size
  refine jt 27 rfl rfl _ 10 Try.call10 rfl rfl _ rfl [pK pb 0, .agg (c29 1 1)] rfl ((show Calls Try.prog 10 #[_, _] _ (ListP _ pb (idK 15 2) mu tb (⟨true, false, 1, 1, 0, 0, zF, 0, [], 0⟩, [⟨1, (idK 15 2), 1, 1, 0, 0, 0, []⟩])) from ux _ pb (idK 15 2) ⟨false, false, 0, 0, 0, 0, zF, 0, [], 0⟩ mu tb HM 1 1)) (fun _ _ h => by obtain ⟨_, _, _, _, _, he, _⟩ := vR h; exact ⟨_, he⟩) ?_
  intro v w7 HC
  obtain ⟨ad2, cap2, f2, mu2, tb2, he, HL2, HX, G, F1, _⟩ := vR HC
  cases he
  replace kg1 := G.has kg1 (HM.not kg1 (by decide) (by decide) (by decide))
  replace HL1 := HL1.no46 G HM.no46
  replace H2 := hnext _ _ _ _ HX G F1
  replace GG := G.gro GG hge
  clear HX G F1 HM hge hnext
  clear HC
  refine mv 4 (.slice (some ad1) 1 cap1) (mv 5 (.slice (some ad2) 1 cap2) (wpList_nil (ja (wp_seq (wp_seq ?_)))))
  refine jr ?_
  intro OPS hY
  have y3 := hY 3 31 rfl
  clear hY
  refine mv 28 (.slice (some ad1) 1 cap1) ?_
  refine nr ?_; intro U h; simp only [z0, z1] at h; subst h
  refine sv 29 (iK ((1 : Nat) : Int)) (jG Try.underlying50 _ rfl _ _ _ rfl _) (sv 30 (vFa) (zG 3 .i64 _ _ _ rfl Try.underlying3 ((1 : Nat) : Int) 1 rfl rfl false (decide_eq_true rfl) _) (mv 31 (vFa) (jn 32 rfl rfl y3 rfl (.slice (some ad2) 1 cap2) (rfl) (jn 33 rfl rfl y3 rfl (iK ((1 : Nat) : Int)) (jG Try.underlying50 _ rfl _ _ _ rfl _) ?_))))
  refine jn 34 rfl rfl y3 rfl (vFa) (zG 3 .i64 _ _ _ rfl Try.underlying3 ((1 : Nat) : Int) 1 rfl rfl false (decide_eq_true rfl) _) (mv 35 (vFa) (wpList_nil (ja (wp_cond_false rfl (wp_skip (ja (wp_seq (wp_region_lit (mv 36 (pK pa 0) (mv 37 (.slice (some ad2) 1 cap2) ?_))))))))))
  refine nr ?_; intro U h; simp only [z0, z1] at h; subst h
  refine sv 38 (.pointer (some (ad2.add (0 * 95)))) (zO _ _ rfl ad2 1 cap2 0 rfl rfl (by decide) _) (sv 39 (.agg (frA f2)) (yl _ rfl ad2 0 rfl _ HL2 (⟨1, (idK 15 2), 1, 1, 0, 0, 0, []⟩, f2) rfl) (sv 40 (.agg (c29 0 0)) (jA 29 _ rfl [] rfl _ (by kernel_rfl)) ?_))
  refine nr ?_; intro U h; simp only [z0, z1] at h; subst h
  obtain ⟨mu, tb, HM, hge, hnext⟩ := H2.fst GG.size
  have er : hearS (idK 15 1) ⟨true, false, 1, 1, 0, 0, zF, 0, [], 0⟩ ⟨1, (idK 15 2), 1, 1, 0, 0, 0, []⟩ 0 0 = (⟨true, false, 1, 1, 1, 1, (idK 15 2), 0, [], 0⟩, ⟨false, false, [], false, [⟨1, (idK 15 1), 1, 1, 1, 1, 0, []⟩]⟩) := by kernel_rfl
  refine jt 41 rfl rfl _ 20 Try.call20 rfl rfl _ rfl [pK pa 0, .agg (frA f2), .agg (c29 0 0)] rfl ((vS _ pa (idK 15 1) ⟨true, false, 1, 1, 0, 0, zF, 0, [], 0⟩ mu tb HM ⟨1, (idK 15 2), 1, 1, 0, 0, 0, []⟩ f2 HL2.fst (Nat.zero_le _) 0 0 (by decide) (by decide))) (fun _ _ ⟨_, _, _, he, _⟩ => ⟨_, he⟩) ?_
  rintro v w8 ⟨v3, mu2, tb2, he, HTT, HX, G, F1, _⟩
  cases he
  rw [er] at HTT HX
  clear er
  replace kg1 := G.has kg1 (HM.not kg1 (by decide) (by decide) (by decide))
  replace HL1 := HL1.no46 G HM.no46
  replace HL2 := HL2.no46 G HM.no46
  replace H2 := hnext _ _ _ _ HX G F1
  replace GG := G.gro GG hge
  clear HX G F1 HM hge hnext
  obtain ⟨ao3, cap3, ad3, oc3, f3, hv, HL3⟩ := vD HTT
  subst hv
  clear HTT
  refine js 6 rfl rfl 59 rfl _ zv59 _ rfl ?_
  intro w9 g2 G eg2 kg2
  have bg2 := jh GG eg2
  have dg1g2 := jf kg1 eg2
  replace kg1 := G.has kg1
  replace H2 := H2.gro G
  replace HL1 := HL1.gro G
  replace HL2 := HL2.gro G
  replace HL3 := HL3.gro G
  replace GG := GG.trans G
  clear G eg2
  refine jo rfl rfl 59 _ _ rfl g2 0 rfl (.agg (c59 false false ⟨ao3, 0, cap3⟩ false ⟨some ad3, 1, oc3⟩)) rfl 59 _ kg2 (c59 false false ⟨ao3, 0, cap3⟩ false ⟨some ad3, 1, oc3⟩) rfl (by kernel_rfl) (nlB rfl) (by kernel_rfl) (c59 false false ⟨ao3, 0, cap3⟩ false ⟨some ad3, 1, oc3⟩) (by kernel_rfl) ?_
  intro w11 St
  replace kg1 := St.has (by omega) kg1
  replace H2 := H2.stT (by decide) (by decide) (by decide) (by decide) kg2 St
  replace HL1 := HL1.no46 ((GroS.refl [g2] _).st St (.inr (by simp))) (jK kg2 (by decide) (by decide))
  replace HL2 := HL2.no46 ((GroS.refl [g2] _).st St (.inr (by simp))) (jK kg2 (by decide) (by decide))
  replace HL3 := HL3.no46 ((GroS.refl [g2] _).st St (.inr (by simp))) (jK kg2 (by decide) (by decide))
  replace GG := GG.store St bg2
  replace kg2 := St.new
  clear St
  refine wpList_nil (ja (wp_seq (wp_seq ?_)))
  refine jr ?_
  intro OPS hY
  have y2 := hY 2 44 rfl
  clear hY
  refine sv 42 (pK g2 1) (jc 59 _ 1 rfl _ _ rfl _) (sv 43 (vFa) (je 4 _ rfl g2 1 rfl 59 _ kg2 (na4 _) _ rfl) (mv 44 (vFa) (jn 45 rfl rfl y2 rfl (pK g2 4) (jc 59 _ 4 rfl _ _ rfl _) (jn 46 rfl rfl y2 rfl (.slice (some ad3) 1 oc3) (je 50 _ rfl g2 4 rfl 59 _ kg2 (na50 _) _ rfl) ?_))))
  refine jn 47 rfl rfl y2 rfl (iK ((1 : Nat) : Int)) (jG Try.underlying50 _ rfl _ _ _ rfl _) (jn 48 rfl rfl y2 rfl (vFa) (zG 3 .i64 _ _ _ rfl Try.underlying3 ((1 : Nat) : Int) 1 rfl rfl false (decide_eq_true rfl) _) ?_)
  refine nr ?_; intro U h; simp only [z0, z1] at h; subst h
  refine mv 49 (vFa) (wpList_nil (ja (wp_cond_false rfl (wp_skip (ja (wp_seq (wp_region_lit (mv 50 (pK pb 0) (sv 51 (pK g2 4) (jc 59 _ 4 rfl _ _ rfl _) (sv 52 (.slice (some ad3) 1 oc3) (je 50 _ rfl g2 4 rfl 59 _ kg2 (na50 _) _ rfl) (sv 53 (.pointer (some (ad3.add (0 * 95)))) (zO _ _ rfl ad3 1 oc3 0 rfl rfl (by decide) _) ?_)))))))))))
  refine sv 54 (.agg (frA f3)) (yl _ rfl ad3 0 rfl _ HL3 (⟨1, (idK 15 1), 1, 1, 1, 1, 0, []⟩, f3) rfl) (sv 55 (.agg (c29 0 0)) (jA 29 _ rfl [] rfl _ (by kernel_rfl)) ?_)
  refine nr ?_; intro U h; simp only [z0, z1] at h; subst h
  obtain ⟨mu, tb, HM, hge, hnext⟩ := H2.snd GG.size
  have er : hearS (idK 15 2) ⟨true, false, 1, 1, 0, 0, zF, 0, [], 0⟩ ⟨1, (idK 15 1), 1, 1, 1, 1, 0, []⟩ 0 0 = (⟨true, true, 1, 1, 1, 1, (idK 15 1), 0, [], 0⟩, ⟨false, true, [], false, [⟨1, (idK 15 2), 1, 1, 1, 1, 0, []⟩]⟩) := by kernel_rfl
  refine jt 56 rfl rfl _ 20 Try.call20 rfl rfl _ rfl [pK pb 0, .agg (frA f3), .agg (c29 0 0)] rfl ((vS _ pb (idK 15 2) ⟨true, false, 1, 1, 0, 0, zF, 0, [], 0⟩ mu tb HM ⟨1, (idK 15 1), 1, 1, 1, 1, 0, []⟩ f3 HL3.fst (Nat.zero_le _) 0 0 (by decide) (by decide))) (fun _ _ ⟨_, _, _, he, _⟩ => ⟨_, he⟩) ?_
  rintro v w12 ⟨v4, mu2, tb2, he, HTT, HX, G, F1, _⟩
  cases he
  rw [er] at HTT HX
  clear er
  replace kg1 := G.has kg1 (HM.not kg1 (by decide) (by decide) (by decide))
  replace kg2 := G.has kg2 (HM.not kg2 (by decide) (by decide) (by decide))
  replace HL1 := HL1.no46 G HM.no46
  replace HL2 := HL2.no46 G HM.no46
  replace HL3 := HL3.no46 G HM.no46
  replace H2 := hnext _ _ _ _ HX G F1
  replace GG := G.gro GG hge
  clear HX G F1 HM hge hnext
  obtain ⟨ao4, cap4, ad4, oc4, f4, hv, HL4⟩ := vD HTT
  subst hv
  clear HTT
  refine js 7 rfl rfl 59 rfl _ zv59 _ rfl ?_
  intro w13 g3 G eg3 kg3
  have bg3 := jh GG eg3
  have dg1g3 := jf kg1 eg3
  have dg2g3 := jf kg2 eg3
  replace kg1 := G.has kg1
  replace kg2 := G.has kg2
  replace H2 := H2.gro G
  replace HL1 := HL1.gro G
  replace HL2 := HL2.gro G
  replace HL3 := HL3.gro G
  replace HL4 := HL4.gro G
  replace GG := GG.trans G
  clear G eg3
  refine jo rfl rfl 59 _ _ rfl g3 0 rfl (.agg (c59 false true ⟨ao4, 0, cap4⟩ false ⟨some ad4, 1, oc4⟩)) rfl 59 _ kg3 (c59 false true ⟨ao4, 0, cap4⟩ false ⟨some ad4, 1, oc4⟩) rfl (by kernel_rfl) (nlB rfl) (by kernel_rfl) (c59 false true ⟨ao4, 0, cap4⟩ false ⟨some ad4, 1, oc4⟩) (by kernel_rfl) ?_
  intro w15 St
  replace kg1 := St.has (by omega) kg1
  replace kg2 := St.has (by omega) kg2
  replace H2 := H2.stT (by decide) (by decide) (by decide) (by decide) kg3 St
  replace HL1 := HL1.no46 ((GroS.refl [g3] _).st St (.inr (by simp))) (jK kg3 (by decide) (by decide))
  replace HL2 := HL2.no46 ((GroS.refl [g3] _).st St (.inr (by simp))) (jK kg3 (by decide) (by decide))
  replace HL3 := HL3.no46 ((GroS.refl [g3] _).st St (.inr (by simp))) (jK kg3 (by decide) (by decide))
  replace HL4 := HL4.no46 ((GroS.refl [g3] _).st St (.inr (by simp))) (jK kg3 (by decide) (by decide))
  replace GG := GG.store St bg3
  replace kg3 := St.new
  clear St
  refine wpList_nil (ja (wp_seq (wp_seq ?_)))
  refine jr ?_
  intro OPS hY
  have y3 := hY 3 60 rfl
  clear hY
  refine sv 57 (pK g3 1) (jc 59 _ 1 rfl _ _ rfl _) (sv 58 (vTr) (je 4 _ rfl g3 1 rfl 59 _ kg3 (na4 _) _ rfl) (sv 59 (vFa) (jU _ _ rfl true rfl) (mv 60 (vFa) (jn 61 rfl rfl y3 rfl (pK g3 4) (jc 59 _ 4 rfl _ _ rfl _) ?_))))
  refine jn 62 rfl rfl y3 rfl (.slice (some ad4) 1 oc4) (je 50 _ rfl g3 4 rfl 59 _ kg3 (na50 _) _ rfl) (jn 63 rfl rfl y3 rfl (iK ((1 : Nat) : Int)) (jG Try.underlying50 _ rfl _ _ _ rfl _) ?_)
  refine nr ?_; intro U h; simp only [z0, z1] at h; subst h
  refine jn 64 rfl rfl y3 rfl (vFa) (zG 3 .i64 _ _ _ rfl Try.underlying3 ((1 : Nat) : Int) 1 rfl rfl false (decide_eq_true rfl) _) (mv 65 (vFa) (wpList_nil (ja (wp_cond_false rfl (wp_skip (ja (wp_seq (wp_region_lit (mv 66 (pK pa 0) (sv 67 (pK g3 4) (jc 59 _ 4 rfl _ _ rfl _) (sv 68 (.slice (some ad4) 1 oc4) (je 50 _ rfl g3 4 rfl 59 _ kg3 (na50 _) _ rfl) ?_)))))))))))
  refine sv 69 (.pointer (some (ad4.add (0 * 95)))) (zO _ _ rfl ad4 1 oc4 0 rfl rfl (by decide) _) (sv 70 (.agg (frA f4)) (yl _ rfl ad4 0 rfl _ HL4 (⟨1, (idK 15 2), 1, 1, 1, 1, 0, []⟩, f4) rfl) (sv 71 (.agg (c29 0 0)) (jA 29 _ rfl [] rfl _ (by kernel_rfl)) ?_))
  refine nr ?_; intro U h; simp only [z0, z1] at h; subst h
  obtain ⟨mu, tb, HM, hge, hnext⟩ := H2.fst GG.size
  have er : hearS (idK 15 1) ⟨true, false, 1, 1, 1, 1, (idK 15 2), 0, [], 0⟩ ⟨1, (idK 15 2), 1, 1, 1, 1, 0, []⟩ 0 0 = (⟨true, true, 1, 1, 1, 1, (idK 15 2), 0, [], 0⟩, ⟨false, true, [], false, [⟨1, (idK 15 1), 1, 1, 1, 1, 0, []⟩]⟩) := by kernel_rfl
  refine jt 72 rfl rfl _ 20 Try.call20 rfl rfl _ rfl [pK pa 0, .agg (frA f4), .agg (c29 0 0)] rfl ((vS _ pa (idK 15 1) ⟨true, false, 1, 1, 1, 1, (idK 15 2), 0, [], 0⟩ mu tb HM ⟨1, (idK 15 2), 1, 1, 1, 1, 0, []⟩ f4 HL4.fst (Nat.zero_le _) 0 0 (by decide) (by decide))) (fun _ _ ⟨_, _, _, he, _⟩ => ⟨_, he⟩) ?_
  rintro v w16 ⟨v5, mu2, tb2, he, HTT, HX, G, F1, _⟩
  cases he
  rw [er] at HTT HX
  clear er
  replace kg1 := G.has kg1 (HM.not kg1 (by decide) (by decide) (by decide))
  replace kg2 := G.has kg2 (HM.not kg2 (by decide) (by decide) (by decide))
  replace kg3 := G.has kg3 (HM.not kg3 (by decide) (by decide) (by decide))
  replace HL1 := HL1.no46 G HM.no46
  replace HL2 := HL2.no46 G HM.no46
  replace HL3 := HL3.no46 G HM.no46
  replace HL4 := HL4.no46 G HM.no46
  replace H2 := hnext _ _ _ _ HX G F1
  replace GG := G.gro GG hge
  clear HX G F1 HM hge hnext
  obtain ⟨ao5, cap5, ad5, oc5, f5, hv, HL5⟩ := vD HTT
  subst hv
  clear HTT
  refine js 8 rfl rfl 59 rfl _ zv59 _ rfl ?_
  intro w17 g4 G eg4 kg4
  have bg4 := jh GG eg4
  have dg1g4 := jf kg1 eg4
  have dg2g4 := jf kg2 eg4
  have dg3g4 := jf kg3 eg4
  replace kg1 := G.has kg1
  replace kg2 := G.has kg2
  replace kg3 := G.has kg3
  replace H2 := H2.gro G
  replace HL1 := HL1.gro G
  replace HL2 := HL2.gro G
  replace HL3 := HL3.gro G
  replace HL4 := HL4.gro G
  replace HL5 := HL5.gro G
  replace GG := GG.trans G
  clear G eg4
  refine jo rfl rfl 59 _ _ rfl g4 0 rfl (.agg (c59 false true ⟨ao5, 0, cap5⟩ false ⟨some ad5, 1, oc5⟩)) rfl 59 _ kg4 (c59 false true ⟨ao5, 0, cap5⟩ false ⟨some ad5, 1, oc5⟩) rfl (by kernel_rfl) (nlB rfl) (by kernel_rfl) (c59 false true ⟨ao5, 0, cap5⟩ false ⟨some ad5, 1, oc5⟩) (by kernel_rfl) ?_
  intro w19 St
  replace kg1 := St.has (by omega) kg1
  replace kg2 := St.has (by omega) kg2
  replace kg3 := St.has (by omega) kg3
  replace H2 := H2.stT (by decide) (by decide) (by decide) (by decide) kg4 St
  replace HL1 := HL1.no46 ((GroS.refl [g4] _).st St (.inr (by simp))) (jK kg4 (by decide) (by decide))
  replace HL2 := HL2.no46 ((GroS.refl [g4] _).st St (.inr (by simp))) (jK kg4 (by decide) (by decide))
  replace HL3 := HL3.no46 ((GroS.refl [g4] _).st St (.inr (by simp))) (jK kg4 (by decide) (by decide))
  replace HL4 := HL4.no46 ((GroS.refl [g4] _).st St (.inr (by simp))) (jK kg4 (by decide) (by decide))
  replace HL5 := HL5.no46 ((GroS.refl [g4] _).st St (.inr (by simp))) (jK kg4 (by decide) (by decide))
  replace GG := GG.store St bg4
  replace kg4 := St.new
  clear St
  refine wpList_nil (ja (wp_seq (wp_region_lit (mv 74 (pK pa 0) ?_))))
  refine nr ?_; intro U h; simp only [z0, z1] at h; subst h
  obtain ⟨mu, tb, HM, _, _⟩ := H2.fst GG.size
  refine jC 75 rfl rfl _ 24 Try.call24 rfl rfl _ rfl [pK pa 0] rfl (open_x _ pa (idK 15 1) ⟨true, true, 1, 1, 1, 1, (idK 15 2), 0, [], 0⟩ mu tb HM) ?_
  intro w20 G
  replace kg1 := G.has kg1
  replace kg2 := G.has kg2
  replace kg3 := G.has kg3
  replace kg4 := G.has kg4
  replace H2 := H2.gro G
  replace HL1 := HL1.gro G
  replace HL2 := HL2.gro G
  replace HL3 := HL3.gro G
  replace HL4 := HL4.gro G
  replace HL5 := HL5.gro G
  replace GG := GG.trans G
  clear G
  refine nr ?_; intro U h; simp only [z0, z1] at h; subst h
  clear HM
  refine mv 73 (.tuple #[.agg (c23 (idK 15 2)), vTr]) (mv 76 (.agg (c23 (idK 15 2))) (mv 77 (vTr) ?_))
  refine js 9 rfl rfl 23 rfl _ zv23 _ rfl ?_
  intro w21 g5 G eg5 kg5
  have bg5 := jh GG eg5
  have dg1g5 := jf kg1 eg5
  have dg2g5 := jf kg2 eg5
  have dg3g5 := jf kg3 eg5
  have dg4g5 := jf kg4 eg5
  replace kg1 := G.has kg1
  replace kg2 := G.has kg2
  replace kg3 := G.has kg3
  replace kg4 := G.has kg4
  replace H2 := H2.gro G
  replace HL1 := HL1.gro G
  replace HL2 := HL2.gro G
  replace HL3 := HL3.gro G
  replace HL4 := HL4.gro G
  replace HL5 := HL5.gro G
  replace GG := GG.trans G
  clear G eg5
  refine jo rfl rfl 23 _ _ rfl g5 0 rfl (.agg (c23 (idK 15 2))) rfl 23 _ kg5 (c23 (idK 15 2)) rfl (by kernel_rfl) (nlB rfl) (by kernel_rfl) (c23 (idK 15 2)) (by kernel_rfl) ?_
  intro w23 St
  replace kg1 := St.has (by omega) kg1
  replace kg2 := St.has (by omega) kg2
  replace kg3 := St.has (by omega) kg3
  replace kg4 := St.has (by omega) kg4
  replace H2 := H2.stT (by decide) (by decide) (by decide) (by decide) kg5 St
  replace HL1 := HL1.no46 ((GroS.refl [g5] _).st St (.inr (by simp))) (jK kg5 (by decide) (by decide))
  replace HL2 := HL2.no46 ((GroS.refl [g5] _).st St (.inr (by simp))) (jK kg5 (by decide) (by decide))
  replace HL3 := HL3.no46 ((GroS.refl [g5] _).st St (.inr (by simp))) (jK kg5 (by decide) (by decide))
  replace HL4 := HL4.no46 ((GroS.refl [g5] _).st St (.inr (by simp))) (jK kg5 (by decide) (by decide))
  replace HL5 := HL5.no46 ((GroS.refl [g5] _).st St (.inr (by simp))) (jK kg5 (by decide) (by decide))
  replace GG := GG.store St bg5
  replace kg5 := St.new
  clear St
  refine mv 10 (vTr) (wpList_nil (ja (wp_seq ?_)))
  refine jr ?_
  intro OPS hY
  have y2 := hY 2 80 rfl
  have y5 := hY 5 83 rfl
  clear hY
  refine sv 78 (pK g4 1) (jc 59 _ 1 rfl _ _ rfl _) (sv 79 (vTr) (je 4 _ rfl g4 1 rfl 59 _ kg4 (na4 _) _ rfl) (mv 80 (vTr) (jn 81 rfl rfl y2 rfl (vTr) (rfl) ?_)))
  refine nr ?_; intro U h; simp only [z0, z1] at h; subst h
  refine mv 82 (vTr) (mv 83 (vTr) (jn 84 rfl rfl y5 rfl (.agg (c23 (idK 15 2))) (jk 23 _ rfl g5 0 16 rfl 23 _ kg5 _ Try.underlying23 rfl si23 _) (jn 85 rfl rfl y5 rfl (.agg (c23 (idK 15 2))) (jA 23 _ rfl [(15, .int .u8 2)] rfl _ (by kernel_rfl)) (jn 86 rfl rfl y5 rfl (vTr) (vM .eql 23 _ _ _ rfl _ _ rfl rfl (by kernel_rfl) _ ((eq23 (idK 15 2) (idK 15 2) _).trans (by rw [decide_eq_true rfl]))) ?_))))
  refine mv 87 (vTr) (mv 0 (vTr) ?_)
  refine nr ?_; intro U h; simp only [z0, z1] at h; subst h
  refine wpList_nil (ja (wp_ret ?_))
  refine bodyPost_ret (results_tmp Try.results8 _ _ _) rfl ?_
  exact ⟨rfl, GG⟩
end Go.Proofs.Ytlfanecaglbomaa
