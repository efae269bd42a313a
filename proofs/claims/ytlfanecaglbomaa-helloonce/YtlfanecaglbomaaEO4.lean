/- An end of the talk rises. -/
import Derived.Test.YtlfanecaglbomaaEO3
namespace Go.Proofs.Ytlfanecaglbomaa
set_option maxRecDepth 100000
set_option maxHeartbeats 4000000
open Go.RowKit
theorem Jb (id : Nat → Nat) (x : ES) (i n : Int) {fs : List (PF × Fr)} (h : fs.map (·.1) = (riseS id x i n).2) : fs.length ≤ 1 := by
  rw [← List.length_map (f := (·.1)), h]
  unfold riseS
  split <;> simp
def lsE2 (ms : List PF) : PostE := PostE.ex (fun v x => ∃ (ao : Option Addr) (cap : Nat) (fs : List (PF × Fr)), v = .slice ao fs.length cap ∧ fs.map (·.1) = ms ∧ LF x 0 ao cap fs) (fun _ _ _ G ⟨a, c, f, h1, h2, h3⟩ => ⟨a, c, f, h1, h2, h3.gro G⟩)
theorem Jj (ms : List PF) (v : Value) : (lsE2 ms).fill v = v := rfl
section
variable {w : World} {p : Nat} {id : Nat → Nat} {x : ES} {mu tb : List Nat}
theorem JQ (H : EX w p id x mu tb) {b : Bool} (hu : x.up = b) : Calls Try.prog 28 #[pK p 0] w fun e w' => e = .returned (.bool b) ∧ Gro w w' := by
  have := up_x w p id x mu tb H
  rw [hu] at this
  exact this
end
theorem rise0u (w0 w : World) (G0 : Gro w0 w) (tp : Nat) (q0 : Nat) (q1 : Nat) (id0 : Nat → Nat) (id1 : Nat → Nat) (x0 : ES) (x1 : ES) (n0 : Nat) (n1 : Nat) (a0 : Option Addr) (c0 : Nat) (f0 : List (PF × Fr)) (a1 : Option Addr) (c1 : Nat) (f1 : List (PF × Fr)) (b0 : Option Addr) (e0 : Nat) (s0 : List SE) (b1 : Option Addr) (e1 : Nat) (s1 : List SE) (d0 : Option Addr) (k0 : Nat) (r0 : List SE) (d1 : Option Addr) (k1 : Nat) (r1 : List SE) (H : Tk w0.heap.size w tp q0 q1 id0 id1 x0 x1 n0 n1 a0 c0 f0 a1 c1 f1 b0 e0 s0 b1 e1 s1 d0 k0 r0 d1 k1 r1) (hu : x0.up = true) : Calls Try.prog 31 #[pK tp 0, iK 0] w fun e w' => e = .returned (.tuple #[]) ∧ Gro w0 w' ∧ Tk w0.heap.size w' tp q0 q1 id0 id1 x0 x1 n0 n1 a0 c0 f0 a1 c1 f1 b0 e0 s0 b1 e1 s1 d0 k0 r0 d1 k1 r1 := by
  refine jq Try.func31 rfl Try.ntmps31 [pK tp 0, iK 0] ?_
  intro U h; simp only [List.length_cons, List.length_nil, List.cons_append, List.nil_append, Nat.reduceAdd, Nat.reduceSub, List.reduceReplicate] at h; subst h
  have GG := Gro.refl w
  replace GG := G0
  have ktp := H.box
  refine wp_seq (wp_region_lit (mv 4 (pK tp 0) (mv 5 (iK 0) (sv 6 (pK tp 0) (jl _ rfl _ rfl) (sv 7 (pK tp 0) (jc 83 _ 0 rfl _ _ rfl _) (sv 8 (pK tp 0) (jS _ _ rfl tp 0 0 (by decide) rfl rfl _) ?_))))))
  refine sv 9 (pK q0 0) (je 25 _ rfl tp 0 rfl 83 _ ktp (na25 _) _ rfl) ?_
  refine nr ?_; intro U h; simp only [z0, z1] at h; subst h
  obtain ⟨mu, tb, HM, hge, hnext⟩ := H.end0 GG.size
  refine jC 10 rfl rfl _ 28 Try.call28 rfl rfl _ rfl [pK q0 0] rfl (JQ HM hu) ?_
  intro w1 G
  replace ktp := G.has ktp
  replace H := H.gro G
  replace GG := GG.trans G
  clear G
  refine nr ?_; intro U h; simp only [z0, z1] at h; subst h
  clear HM hge hnext
  refine sv 11 (vFa) (jU _ _ rfl true rfl) (wpList_nil (ja (wp_cond_false rfl (wp_skip ?_))))
  refine jN (results_none Try.results31 _ _ _) rfl ?_
  exact ⟨rfl, GG, H⟩
theorem rise0d (w0 w : World) (G0 : Gro w0 w) (tp : Nat) (q0 : Nat) (q1 : Nat) (id0 : Nat → Nat) (id1 : Nat → Nat) (x0 : ES) (x1 : ES) (n0 : Nat) (n1 : Nat) (a0 : Option Addr) (c0 : Nat) (f0 : List (PF × Fr)) (a1 : Option Addr) (c1 : Nat) (f1 : List (PF × Fr)) (b0 : Option Addr) (e0 : Nat) (s0 : List SE) (b1 : Option Addr) (e1 : Nat) (s1 : List SE) (d0 : Option Addr) (k0 : Nat) (r0 : List SE) (d1 : Option Addr) (k1 : Nat) (r1 : List SE) (H : Tk w0.heap.size w tp q0 q1 id0 id1 x0 x1 n0 n1 a0 c0 f0 a1 c1 f1 b0 e0 s0 b1 e1 s1 d0 k0 r0 d1 k1 r1) (hu : x0.up = false) (hfl : f1.length ≤ 200) (hn : n0 ≤ 1000) : Calls Try.prog 31 #[pK tp 0, iK 0] w fun e w' => e = .returned (.tuple #[]) ∧ Gro w0 w' ∧ ∃ (a : Option Addr) (c : Nat) (f : List (PF × Fr)), Tk w0.heap.size w' tp q0 q1 id0 id1 (riseS id0 x0 1 ((n0 + 1 : Nat) : Int)).1 x1 (n0 + 1) n1 a0 c0 f0 a c f b0 e0 s0 b1 e1 s1 d0 k0 r0 d1 k1 r1 ∧ f.length ≤ 200 ∧ ∀ y ∈ f.map (·.1), y ∈ f1.map (·.1) ∨ y ∈ (riseS id0 x0 1 ((n0 + 1 : Nat) : Int)).2 := by
  refine jq Try.func31 rfl Try.ntmps31 [pK tp 0, iK 0] ?_
  intro U h; simp only [List.length_cons, List.length_nil, List.cons_append, List.nil_append, Nat.reduceAdd, Nat.reduceSub, List.reduceReplicate] at h; subst h
  have GG := Gro.refl w
  replace GG := G0
  have ktp := H.box
  refine wp_seq (wp_region_lit (mv 4 (pK tp 0) (mv 5 (iK 0) (sv 6 (pK tp 0) (jl _ rfl _ rfl) (sv 7 (pK tp 0) (jc 83 _ 0 rfl _ _ rfl _) (sv 8 (pK tp 0) (jS _ _ rfl tp 0 0 (by decide) rfl rfl _) ?_))))))
  refine sv 9 (pK q0 0) (je 25 _ rfl tp 0 rfl 83 _ ktp (na25 _) _ rfl) ?_
  refine nr ?_; intro U h; simp only [z0, z1] at h; subst h
  obtain ⟨mu, tb, HM, hge, hnext⟩ := H.end0 GG.size
  refine jC 10 rfl rfl _ 28 Try.call28 rfl rfl _ rfl [pK q0 0] rfl (JQ HM hu) ?_
  intro w1 G
  replace ktp := G.has ktp
  replace H := H.gro G
  replace GG := GG.trans G
  clear G
  refine nr ?_; intro U h; simp only [z0, z1] at h; subst h
  clear HM hge hnext
  refine sv 11 (vTr) (jU _ _ rfl false rfl) (wpList_nil (ja (wp_cond_true rfl (wp_seq ?_))))
  refine jw (A := ?Ax1) 9 [(0, 12), (1, 13), (2, 14), (3, 15), (4, 16), (5, 17), (6, 18), (7, 19), (8, 20)] [.val (pK tp 0), .val (iK 0), .val (pK tp 0), .val (pK tp 4), .val (pK tp 4), .val (iK ((n0 : Nat) : Int)), .val (iK ((n0 + 1 : Nat) : Int)), .val (pK tp 0), .val (pK tp 4)] follows (by kernel_rfl) rfl ?hAx1 (jd ?o0x1 (jd ?o1x1 (jd ?o2x1 (jd ?o3x1 (jd ?o4x1 (jd ?o5x1 (jd ?o6x1 (jd ?o7x1 (jd ?o8x1 jM))))))))) ?restx1
  case hAx1 =>
    intro ptrs
    simp only [full, foldSlots, filledE, postE, List.foldl_cons, List.foldl_nil, List.getD_cons_zero, List.getD_cons_succ, ju, List.set_cons_zero, List.set_cons_succ]
    exact rfl
  case o0x1 => exact fun _ _ _ _ => jj (v := pK tp 0) _ rfl rfl rfl
  case o1x1 => exact fun _ _ _ _ => jj (v := iK 0) _ rfl rfl rfl
  case o2x1 => exact fun _ _ hw _ => jb (v := pK tp 0) rfl (jl _ rfl _ rfl)
  case o3x1 => exact fun _ _ hw _ => jb (v := pK tp 4) rfl (jc 83 _ 2 rfl _ _ rfl _)
  case o4x1 => exact fun _ _ hw _ => jb (v := pK tp 4) rfl (zu _ _ rfl tp 4 0 (by decide) rfl rfl _)
  case o5x1 => exact fun _ _ hw _ => jb (v := iK ((n0 : Nat) : Int)) rfl (je 2 _ rfl tp 4 rfl 83 _ (hw.has ktp) (na2 _) _ rfl)
  case o6x1 => exact fun _ _ hw _ => jb (v := iK ((n0 + 1 : Nat) : Int)) rfl (jF 2 _ _ _ rfl ((n0 : Nat) : Int) 1 ((n0 + 1 : Nat) : Int) rfl rfl (by omega) (by omega) (by omega) _)
  case o7x1 => exact fun _ _ hw _ => jb (v := pK tp 0) rfl (jl _ rfl _ rfl)
  case o8x1 => exact fun _ _ hw _ => jb (v := pK tp 4) rfl (jc 83 _ 2 rfl _ _ rfl _)
  intro ptrs w2 GD hxE
  simp only [List.drop_succ_cons, List.drop_zero]
  replace ktp := GD.has ktp
  replace H := H.gro ((Gro.refl _).drew.trans GD)
  replace GG := GG.drew.trans GD
  clear GD
  refine sv 21 (pK tp 4) (zu _ _ rfl tp 4 0 (by decide) rfl rfl _) ?_
  refine jo rfl rfl 2 _ _ rfl tp 4 rfl (iK ((n0 + 1 : Nat) : Int)) rfl 83 _ ktp #[iK ((n0 + 1 : Nat) : Int)] rfl (by kernel_rfl) (nlB rfl) (by kernel_rfl) (c83 (some ⟨q0, 0, none⟩) (some ⟨q1, 0, none⟩) ⟨a0, f0.length, c0⟩ ⟨a1, f1.length, c1⟩ ((n0 + 1 : Nat) : Int) ((n1 : Nat) : Int) ⟨b0, s0.length, e0⟩ ⟨b1, s1.length, e1⟩ ⟨d0, r0.length, k0⟩ ⟨d1, r1.length, k1⟩) (by kernel_rfl) ?_
  intro w4 St
  replace GG := GG.store St H.base
  replace H := H.cnt0 St
  clear St
  clear ktp
  have ktp := H.box
  refine wpList_nil (ja ?_)
  refine jJ (A := ?Ap1) (fun L x => Gro w0 x ∧ x.heap[tp]? = some (.cells (c83 (some ⟨q0, 0, none⟩) (some ⟨q1, 0, none⟩) ⟨a0, f0.length, c0⟩ ⟨a1, f1.length, c1⟩ (((n0 + 1) : Nat) : Int) ((n1 : Nat) : Int) ⟨b0, s0.length, e0⟩ ⟨b1, s1.length, e1⟩ ⟨d0, r0.length, k0⟩ ⟨d1, r1.length, k1⟩) 83 (0, 0)) ∧ Tk w0.heap.size x tp q0 q1 id0 id1 (cond (L 15) (riseS id0 x0 1 ((n0 + 1 : Nat) : Int)).1 x0) x1 (n0 + 1) n1 a0 c0 f0 a1 c1 f1 b0 e0 s0 b1 e1 s1 d0 k0 r0 d1 k1 r1) 16 [(0, 22), (1, 23), (2, 24), (3, 25), (4, 26), (5, 27), (6, 28), (7, 29), (8, 30), (9, 31), (10, 32), (11, 33), (12, 34), (13, 35), (14, 36), (15, 37)] [.val (pK tp 0), .val (iK 0), .val (pK tp 0), .val (iK 0), .val (pK tp 0), .val (pK tp 0), .val (pK tp 0), .val (pK q0 0), .val (pK tp 0), .val (iK 0), .val (pK tp 0), .val (pK tp 4), .val (pK tp 4), .val (iK ((n0 + 1 : Nat) : Int)), .val (.agg (c29 1 ((n0 + 1 : Nat) : Int))), lsE2 (riseS id0 x0 1 ((n0 + 1 : Nat) : Int)).2] [] [15] follows (by kernel_rfl) rfl (by kernel_rfl) (by decide) ⟨GG.drew, (Gro.refl _).drew.has ktp, H.gro (Gro.refl _).drew⟩ ?hAp1 (ji (fun _ _ _ h _ G => ⟨h.1.trans G, G.has h.2.1, h.2.2.gro G⟩) ?o0p1 (ji (fun _ _ _ h _ G => ⟨h.1.trans G, G.has h.2.1, h.2.2.gro G⟩) ?o1p1 (ji (fun _ _ _ h _ G => ⟨h.1.trans G, G.has h.2.1, h.2.2.gro G⟩) ?o2p1 (ji (fun _ _ _ h _ G => ⟨h.1.trans G, G.has h.2.1, h.2.2.gro G⟩) ?o3p1 (ji (fun _ _ _ h _ G => ⟨h.1.trans G, G.has h.2.1, h.2.2.gro G⟩) ?o4p1 (ji (fun _ _ _ h _ G => ⟨h.1.trans G, G.has h.2.1, h.2.2.gro G⟩) ?o5p1 (ji (fun _ _ _ h _ G => ⟨h.1.trans G, G.has h.2.1, h.2.2.gro G⟩) ?o6p1 (ji (fun _ _ _ h _ G => ⟨h.1.trans G, G.has h.2.1, h.2.2.gro G⟩) ?o7p1 (ji (fun _ _ _ h _ G => ⟨h.1.trans G, G.has h.2.1, h.2.2.gro G⟩) ?o8p1 (ji (fun _ _ _ h _ G => ⟨h.1.trans G, G.has h.2.1, h.2.2.gro G⟩) ?o9p1 (ji (fun _ _ _ h _ G => ⟨h.1.trans G, G.has h.2.1, h.2.2.gro G⟩) ?o10p1 (ji (fun _ _ _ h _ G => ⟨h.1.trans G, G.has h.2.1, h.2.2.gro G⟩) ?o11p1 (ji (fun _ _ _ h _ G => ⟨h.1.trans G, G.has h.2.1, h.2.2.gro G⟩) ?o12p1 (ji (fun _ _ _ h _ G => ⟨h.1.trans G, G.has h.2.1, h.2.2.gro G⟩) ?o13p1 (ji (fun _ _ _ h _ G => ⟨h.1.trans G, G.has h.2.1, h.2.2.gro G⟩) ?o14p1 (jX ?o15p1 zc)))))))))))))))) ?restp1
  case hAp1 =>
    intro ptrs
    simp only [full, foldSlots, filledE, postE, List.foldl_cons, List.foldl_nil, List.getD_cons_zero, List.getD_cons_succ, ju, Jj,  List.set_cons_zero, List.set_cons_succ]
    exact rfl
  case o0p1 => exact fun _ _ _ _ _ _ _ _ => jj (v := pK tp 0) _ rfl rfl rfl
  case o1p1 => exact fun _ _ _ _ _ _ _ _ => jj (v := iK 0) _ rfl rfl rfl
  case o2p1 => exact fun _ _ _ _ _ _ _ _ => jj (v := pK tp 0) _ rfl rfl rfl
  case o3p1 => exact fun _ _ _ _ _ _ _ _ => jj (v := iK 0) _ rfl rfl rfl
  case o4p1 => exact fun _ _ x hx _ _ _ _ => jb (v := pK tp 0) rfl (jl _ rfl _ rfl)
  case o5p1 => exact fun _ _ x hx _ _ _ _ => jb (v := pK tp 0) rfl (jc 83 _ 0 rfl _ _ rfl _)
  case o6p1 => exact fun _ _ x hx _ _ _ _ => jb (v := pK tp 0) rfl (jS _ _ rfl tp 0 0 (by decide) rfl rfl _)
  case o7p1 => exact fun _ _ x hx _ _ _ _ => jb (v := pK q0 0) rfl (je 25 _ rfl tp 0 rfl 83 _ hx.2.1 (na25 _) _ rfl)
  case o8p1 => exact fun _ _ _ _ _ _ _ _ => jj (v := pK tp 0) _ rfl rfl rfl
  case o9p1 => exact fun _ _ _ _ _ _ _ _ => jj (v := iK 0) _ rfl rfl rfl
  case o10p1 => exact fun _ _ x hx _ _ _ _ => jb (v := pK tp 0) rfl (jl _ rfl _ rfl)
  case o11p1 => exact fun _ _ x hx _ _ _ _ => jb (v := pK tp 4) rfl (jc 83 _ 2 rfl _ _ rfl _)
  case o12p1 => exact fun _ _ x hx _ _ _ _ => jb (v := pK tp 4) rfl (zu _ _ rfl tp 4 0 (by decide) rfl rfl _)
  case o13p1 => exact fun _ _ x hx _ _ _ _ => jb (v := iK ((n0 + 1 : Nat) : Int)) rfl (je 2 _ rfl tp 4 rfl 83 _ hx.2.1 (na2 _) _ rfl)
  case o14p1 => exact fun _ _ x hx _ _ _ _ => jb (v := .agg (c29 1 ((n0 + 1 : Nat) : Int))) rfl (jA 29 _ rfl [(0, iK 1), (1, iK ((n0 + 1 : Nat) : Int))] rfl _ (by kernel_rfl))
  case o15p1 =>
    intro L ptrs x hx hL hed hno _
    have h2 := hx.2.2
    rw [hL] at h2
    obtain ⟨mu, tb, HM, hge, hnext⟩ := h2.end0 hx.1.size
    exact zw (lsE2 (riseS id0 x0 1 ((n0 + 1 : Nat) : Int)).2) rfl _ 10 Try.call10 rfl rfl _ rfl [pK q0 0, .agg (c29 1 ((n0 + 1 : Nat) : Int))] rfl ((ux _ q0 id0 x0 mu tb HM 1 ((n0 + 1 : Nat) : Int)).mono fun e y ⟨ao1, cap1, fs1, mu', tb', he, hm, HL, HX, G, F1, F2⟩ => ⟨_, he, ⟨⟨G.gro hx.1 hge, G.has hx.2.1 (HM.not hx.2.1 (by decide) (by decide) (by decide)), hnext _ _ _ _ HX G F1⟩, StM.vals [0, 1, 2, 3, 4, 5, 6, 7, 8, 9, 10, 11, 12, 13, 14] (by kernel_rfl) ⟨⟨_, rfl⟩, ⟨_, rfl⟩, ⟨_, rfl⟩, ⟨_, rfl⟩, ⟨_, rfl⟩, ⟨_, rfl⟩, ⟨_, rfl⟩, ⟨_, rfl⟩, ⟨_, rfl⟩, ⟨_, rfl⟩, ⟨_, rfl⟩, ⟨_, rfl⟩, ⟨_, rfl⟩, ⟨_, rfl⟩, ⟨_, rfl⟩, trivial⟩⟩, ao1, cap1, fs1, rfl, hm, HL⟩)
  intro ptrs w5 HJ hxE
  simp only [List.drop_succ_cons, List.drop_zero]
  clear GG ktp H
  obtain ⟨GG, ktp, H⟩ := HJ
  clear ktp
  replace H : Tk w0.heap.size w5 tp q0 q1 id0 id1 (riseS id0 x0 1 ((n0 + 1 : Nat) : Int)).1 x1 (n0 + 1) n1 a0 c0 f0 a1 c1 f1 b0 e0 s0 b1 e1 s1 d0 k0 r0 d1 k1 r1 := H
  obtain ⟨⟨ao, cap, fs, hv, hm, HLl⟩, _⟩ := hxE
  simp only [hv]
  clear hv
  have hone := Jb id0 x0 1 ((n0 + 1 : Nat) : Int) hm
  refine jt 38 rfl rfl _ 32 Try.call32 rfl rfl _ rfl [pK tp 0, iK 0, .slice ao fs.length cap] rfl (say0 w0 _ GG _ _ _ _ _ _ _ _ _ _ _ _ _ _ _ _ _ _ _ _ _ _ _ _ _ _ _ H ao cap fs HLl (by omega) hfl (.inl hone)) (fun _ _ ⟨he, _⟩ => ⟨_, he⟩) ?_
  rintro v w6 ⟨he, GG2, a2, c2, f2, H2, hfl2, hmem2⟩
  cases he
  clear GG H
  have GG := GG2
  have H := H2
  clear GG2 H2
  refine wpList_nil ?_
  refine jN (results_none Try.results31 _ _ _) rfl ?_
  exact ⟨rfl, GG, a2, c2, f2, H, hfl2, fun y hy => (hmem2 y hy).imp (fun h => h) fun h => by rw [← hm]; exact h⟩
theorem rise1u (w0 w : World) (G0 : Gro w0 w) (tp : Nat) (q0 : Nat) (q1 : Nat) (id0 : Nat → Nat) (id1 : Nat → Nat) (x0 : ES) (x1 : ES) (n0 : Nat) (n1 : Nat) (a0 : Option Addr) (c0 : Nat) (f0 : List (PF × Fr)) (a1 : Option Addr) (c1 : Nat) (f1 : List (PF × Fr)) (b0 : Option Addr) (e0 : Nat) (s0 : List SE) (b1 : Option Addr) (e1 : Nat) (s1 : List SE) (d0 : Option Addr) (k0 : Nat) (r0 : List SE) (d1 : Option Addr) (k1 : Nat) (r1 : List SE) (H : Tk w0.heap.size w tp q0 q1 id0 id1 x0 x1 n0 n1 a0 c0 f0 a1 c1 f1 b0 e0 s0 b1 e1 s1 d0 k0 r0 d1 k1 r1) (hu : x1.up = true) : Calls Try.prog 31 #[pK tp 0, iK 1] w fun e w' => e = .returned (.tuple #[]) ∧ Gro w0 w' ∧ Tk w0.heap.size w' tp q0 q1 id0 id1 x0 x1 n0 n1 a0 c0 f0 a1 c1 f1 b0 e0 s0 b1 e1 s1 d0 k0 r0 d1 k1 r1 := by
  refine jq Try.func31 rfl Try.ntmps31 [pK tp 0, iK 1] ?_
  intro U h; simp only [List.length_cons, List.length_nil, List.cons_append, List.nil_append, Nat.reduceAdd, Nat.reduceSub, List.reduceReplicate] at h; subst h
  have GG := Gro.refl w
  replace GG := G0
  have ktp := H.box
  refine wp_seq (wp_region_lit (mv 4 (pK tp 0) (mv 5 (iK 1) (sv 6 (pK tp 0) (jl _ rfl _ rfl) (sv 7 (pK tp 0) (jc 83 _ 0 rfl _ _ rfl _) (sv 8 (pK tp 1) (jS _ _ rfl tp 0 1 (by decide) rfl rfl _) ?_))))))
  refine sv 9 (pK q1 0) (je 25 _ rfl tp 1 rfl 83 _ ktp (na25 _) _ rfl) ?_
  refine nr ?_; intro U h; simp only [z0, z1] at h; subst h
  obtain ⟨mu, tb, HM, hge, hnext⟩ := H.end1 GG.size
  refine jC 10 rfl rfl _ 28 Try.call28 rfl rfl _ rfl [pK q1 0] rfl (JQ HM hu) ?_
  intro w1 G
  replace ktp := G.has ktp
  replace H := H.gro G
  replace GG := GG.trans G
  clear G
  refine nr ?_; intro U h; simp only [z0, z1] at h; subst h
  clear HM hge hnext
  refine sv 11 (vFa) (jU _ _ rfl true rfl) (wpList_nil (ja (wp_cond_false rfl (wp_skip ?_))))
  refine jN (results_none Try.results31 _ _ _) rfl ?_
  exact ⟨rfl, GG, H⟩
theorem rise1d (w0 w : World) (G0 : Gro w0 w) (tp : Nat) (q0 : Nat) (q1 : Nat) (id0 : Nat → Nat) (id1 : Nat → Nat) (x0 : ES) (x1 : ES) (n0 : Nat) (n1 : Nat) (a0 : Option Addr) (c0 : Nat) (f0 : List (PF × Fr)) (a1 : Option Addr) (c1 : Nat) (f1 : List (PF × Fr)) (b0 : Option Addr) (e0 : Nat) (s0 : List SE) (b1 : Option Addr) (e1 : Nat) (s1 : List SE) (d0 : Option Addr) (k0 : Nat) (r0 : List SE) (d1 : Option Addr) (k1 : Nat) (r1 : List SE) (H : Tk w0.heap.size w tp q0 q1 id0 id1 x0 x1 n0 n1 a0 c0 f0 a1 c1 f1 b0 e0 s0 b1 e1 s1 d0 k0 r0 d1 k1 r1) (hu : x1.up = false) (hfl : f0.length ≤ 200) (hn : n1 ≤ 1000) : Calls Try.prog 31 #[pK tp 0, iK 1] w fun e w' => e = .returned (.tuple #[]) ∧ Gro w0 w' ∧ ∃ (a : Option Addr) (c : Nat) (f : List (PF × Fr)), Tk w0.heap.size w' tp q0 q1 id0 id1 x0 (riseS id1 x1 1 ((n1 + 1 : Nat) : Int)).1 n0 (n1 + 1) a c f a1 c1 f1 b0 e0 s0 b1 e1 s1 d0 k0 r0 d1 k1 r1 ∧ f.length ≤ 200 ∧ ∀ y ∈ f.map (·.1), y ∈ f0.map (·.1) ∨ y ∈ (riseS id1 x1 1 ((n1 + 1 : Nat) : Int)).2 := by
  refine jq Try.func31 rfl Try.ntmps31 [pK tp 0, iK 1] ?_
  intro U h; simp only [List.length_cons, List.length_nil, List.cons_append, List.nil_append, Nat.reduceAdd, Nat.reduceSub, List.reduceReplicate] at h; subst h
  have GG := Gro.refl w
  replace GG := G0
  have ktp := H.box
  refine wp_seq (wp_region_lit (mv 4 (pK tp 0) (mv 5 (iK 1) (sv 6 (pK tp 0) (jl _ rfl _ rfl) (sv 7 (pK tp 0) (jc 83 _ 0 rfl _ _ rfl _) (sv 8 (pK tp 1) (jS _ _ rfl tp 0 1 (by decide) rfl rfl _) ?_))))))
  refine sv 9 (pK q1 0) (je 25 _ rfl tp 1 rfl 83 _ ktp (na25 _) _ rfl) ?_
  refine nr ?_; intro U h; simp only [z0, z1] at h; subst h
  obtain ⟨mu, tb, HM, hge, hnext⟩ := H.end1 GG.size
  refine jC 10 rfl rfl _ 28 Try.call28 rfl rfl _ rfl [pK q1 0] rfl (JQ HM hu) ?_
  intro w1 G
  replace ktp := G.has ktp
  replace H := H.gro G
  replace GG := GG.trans G
  clear G
  refine nr ?_; intro U h; simp only [z0, z1] at h; subst h
  clear HM hge hnext
  refine sv 11 (vTr) (jU _ _ rfl false rfl) (wpList_nil (ja (wp_cond_true rfl (wp_seq ?_))))
  refine jw (A := ?Ax2) 9 [(0, 12), (1, 13), (2, 14), (3, 15), (4, 16), (5, 17), (6, 18), (7, 19), (8, 20)] [.val (pK tp 0), .val (iK 1), .val (pK tp 0), .val (pK tp 4), .val (pK tp 5), .val (iK ((n1 : Nat) : Int)), .val (iK ((n1 + 1 : Nat) : Int)), .val (pK tp 0), .val (pK tp 4)] follows (by kernel_rfl) rfl ?hAx2 (jd ?o0x2 (jd ?o1x2 (jd ?o2x2 (jd ?o3x2 (jd ?o4x2 (jd ?o5x2 (jd ?o6x2 (jd ?o7x2 (jd ?o8x2 jM))))))))) ?restx2
  case hAx2 =>
    intro ptrs
    simp only [full, foldSlots, filledE, postE, List.foldl_cons, List.foldl_nil, List.getD_cons_zero, List.getD_cons_succ, ju, List.set_cons_zero, List.set_cons_succ]
    exact rfl
  case o0x2 => exact fun _ _ _ _ => jj (v := pK tp 0) _ rfl rfl rfl
  case o1x2 => exact fun _ _ _ _ => jj (v := iK 1) _ rfl rfl rfl
  case o2x2 => exact fun _ _ hw _ => jb (v := pK tp 0) rfl (jl _ rfl _ rfl)
  case o3x2 => exact fun _ _ hw _ => jb (v := pK tp 4) rfl (jc 83 _ 2 rfl _ _ rfl _)
  case o4x2 => exact fun _ _ hw _ => jb (v := pK tp 5) rfl (zu _ _ rfl tp 4 1 (by decide) rfl rfl _)
  case o5x2 => exact fun _ _ hw _ => jb (v := iK ((n1 : Nat) : Int)) rfl (je 2 _ rfl tp 5 rfl 83 _ (hw.has ktp) (na2 _) _ rfl)
  case o6x2 => exact fun _ _ hw _ => jb (v := iK ((n1 + 1 : Nat) : Int)) rfl (jF 2 _ _ _ rfl ((n1 : Nat) : Int) 1 ((n1 + 1 : Nat) : Int) rfl rfl (by omega) (by omega) (by omega) _)
  case o7x2 => exact fun _ _ hw _ => jb (v := pK tp 0) rfl (jl _ rfl _ rfl)
  case o8x2 => exact fun _ _ hw _ => jb (v := pK tp 4) rfl (jc 83 _ 2 rfl _ _ rfl _)
  intro ptrs w2 GD hxE
  simp only [List.drop_succ_cons, List.drop_zero]
  replace ktp := GD.has ktp
  replace H := H.gro ((Gro.refl _).drew.trans GD)
  replace GG := GG.drew.trans GD
  clear GD
  refine sv 21 (pK tp 5) (zu _ _ rfl tp 4 1 (by decide) rfl rfl _) ?_
  refine jo rfl rfl 2 _ _ rfl tp 5 rfl (iK ((n1 + 1 : Nat) : Int)) rfl 83 _ ktp #[iK ((n1 + 1 : Nat) : Int)] rfl (by kernel_rfl) (nlB rfl) (by kernel_rfl) (c83 (some ⟨q0, 0, none⟩) (some ⟨q1, 0, none⟩) ⟨a0, f0.length, c0⟩ ⟨a1, f1.length, c1⟩ ((n0 : Nat) : Int) ((n1 + 1 : Nat) : Int) ⟨b0, s0.length, e0⟩ ⟨b1, s1.length, e1⟩ ⟨d0, r0.length, k0⟩ ⟨d1, r1.length, k1⟩) (by kernel_rfl) ?_
  intro w4 St
  replace GG := GG.store St H.base
  replace H := H.cnt1 St
  clear St
  clear ktp
  have ktp := H.box
  refine wpList_nil (ja ?_)
  refine jJ (A := ?Ap2) (fun L x => Gro w0 x ∧ x.heap[tp]? = some (.cells (c83 (some ⟨q0, 0, none⟩) (some ⟨q1, 0, none⟩) ⟨a0, f0.length, c0⟩ ⟨a1, f1.length, c1⟩ ((n0 : Nat) : Int) (((n1 + 1) : Nat) : Int) ⟨b0, s0.length, e0⟩ ⟨b1, s1.length, e1⟩ ⟨d0, r0.length, k0⟩ ⟨d1, r1.length, k1⟩) 83 (0, 0)) ∧ Tk w0.heap.size x tp q0 q1 id0 id1 x0 (cond (L 15) (riseS id1 x1 1 ((n1 + 1 : Nat) : Int)).1 x1) n0 (n1 + 1) a0 c0 f0 a1 c1 f1 b0 e0 s0 b1 e1 s1 d0 k0 r0 d1 k1 r1) 16 [(0, 22), (1, 23), (2, 24), (3, 25), (4, 26), (5, 27), (6, 28), (7, 29), (8, 30), (9, 31), (10, 32), (11, 33), (12, 34), (13, 35), (14, 36), (15, 37)] [.val (pK tp 0), .val (iK 1), .val (pK tp 0), .val (iK 1), .val (pK tp 0), .val (pK tp 0), .val (pK tp 1), .val (pK q1 0), .val (pK tp 0), .val (iK 1), .val (pK tp 0), .val (pK tp 4), .val (pK tp 5), .val (iK ((n1 + 1 : Nat) : Int)), .val (.agg (c29 1 ((n1 + 1 : Nat) : Int))), lsE2 (riseS id1 x1 1 ((n1 + 1 : Nat) : Int)).2] [] [15] follows (by kernel_rfl) rfl (by kernel_rfl) (by decide) ⟨GG.drew, (Gro.refl _).drew.has ktp, H.gro (Gro.refl _).drew⟩ ?hAp2 (ji (fun _ _ _ h _ G => ⟨h.1.trans G, G.has h.2.1, h.2.2.gro G⟩) ?o0p2 (ji (fun _ _ _ h _ G => ⟨h.1.trans G, G.has h.2.1, h.2.2.gro G⟩) ?o1p2 (ji (fun _ _ _ h _ G => ⟨h.1.trans G, G.has h.2.1, h.2.2.gro G⟩) ?o2p2 (ji (fun _ _ _ h _ G => ⟨h.1.trans G, G.has h.2.1, h.2.2.gro G⟩) ?o3p2 (ji (fun _ _ _ h _ G => ⟨h.1.trans G, G.has h.2.1, h.2.2.gro G⟩) ?o4p2 (ji (fun _ _ _ h _ G => ⟨h.1.trans G, G.has h.2.1, h.2.2.gro G⟩) ?o5p2 (ji (fun _ _ _ h _ G => ⟨h.1.trans G, G.has h.2.1, h.2.2.gro G⟩) ?o6p2 (ji (fun _ _ _ h _ G => ⟨h.1.trans G, G.has h.2.1, h.2.2.gro G⟩) ?o7p2 (ji (fun _ _ _ h _ G => ⟨h.1.trans G, G.has h.2.1, h.2.2.gro G⟩) ?o8p2 (ji (fun _ _ _ h _ G => ⟨h.1.trans G, G.has h.2.1, h.2.2.gro G⟩) ?o9p2 (ji (fun _ _ _ h _ G => ⟨h.1.trans G, G.has h.2.1, h.2.2.gro G⟩) ?o10p2 (ji (fun _ _ _ h _ G => ⟨h.1.trans G, G.has h.2.1, h.2.2.gro G⟩) ?o11p2 (ji (fun _ _ _ h _ G => ⟨h.1.trans G, G.has h.2.1, h.2.2.gro G⟩) ?o12p2 (ji (fun _ _ _ h _ G => ⟨h.1.trans G, G.has h.2.1, h.2.2.gro G⟩) ?o13p2 (ji (fun _ _ _ h _ G => ⟨h.1.trans G, G.has h.2.1, h.2.2.gro G⟩) ?o14p2 (jX ?o15p2 zc)))))))))))))))) ?restp2
  case hAp2 =>
    intro ptrs
    simp only [full, foldSlots, filledE, postE, List.foldl_cons, List.foldl_nil, List.getD_cons_zero, List.getD_cons_succ, ju, Jj,  List.set_cons_zero, List.set_cons_succ]
    exact rfl
  case o0p2 => exact fun _ _ _ _ _ _ _ _ => jj (v := pK tp 0) _ rfl rfl rfl
  case o1p2 => exact fun _ _ _ _ _ _ _ _ => jj (v := iK 1) _ rfl rfl rfl
  case o2p2 => exact fun _ _ _ _ _ _ _ _ => jj (v := pK tp 0) _ rfl rfl rfl
  case o3p2 => exact fun _ _ _ _ _ _ _ _ => jj (v := iK 1) _ rfl rfl rfl
  case o4p2 => exact fun _ _ x hx _ _ _ _ => jb (v := pK tp 0) rfl (jl _ rfl _ rfl)
  case o5p2 => exact fun _ _ x hx _ _ _ _ => jb (v := pK tp 0) rfl (jc 83 _ 0 rfl _ _ rfl _)
  case o6p2 => exact fun _ _ x hx _ _ _ _ => jb (v := pK tp 1) rfl (jS _ _ rfl tp 0 1 (by decide) rfl rfl _)
  case o7p2 => exact fun _ _ x hx _ _ _ _ => jb (v := pK q1 0) rfl (je 25 _ rfl tp 1 rfl 83 _ hx.2.1 (na25 _) _ rfl)
  case o8p2 => exact fun _ _ _ _ _ _ _ _ => jj (v := pK tp 0) _ rfl rfl rfl
  case o9p2 => exact fun _ _ _ _ _ _ _ _ => jj (v := iK 1) _ rfl rfl rfl
  case o10p2 => exact fun _ _ x hx _ _ _ _ => jb (v := pK tp 0) rfl (jl _ rfl _ rfl)
  case o11p2 => exact fun _ _ x hx _ _ _ _ => jb (v := pK tp 4) rfl (jc 83 _ 2 rfl _ _ rfl _)
  case o12p2 => exact fun _ _ x hx _ _ _ _ => jb (v := pK tp 5) rfl (zu _ _ rfl tp 4 1 (by decide) rfl rfl _)
  case o13p2 => exact fun _ _ x hx _ _ _ _ => jb (v := iK ((n1 + 1 : Nat) : Int)) rfl (je 2 _ rfl tp 5 rfl 83 _ hx.2.1 (na2 _) _ rfl)
  case o14p2 => exact fun _ _ x hx _ _ _ _ => jb (v := .agg (c29 1 ((n1 + 1 : Nat) : Int))) rfl (jA 29 _ rfl [(0, iK 1), (1, iK ((n1 + 1 : Nat) : Int))] rfl _ (by kernel_rfl))
  case o15p2 =>
    intro L ptrs x hx hL hed hno _
    have h2 := hx.2.2
    rw [hL] at h2
    obtain ⟨mu, tb, HM, hge, hnext⟩ := h2.end1 hx.1.size
    exact zw (lsE2 (riseS id1 x1 1 ((n1 + 1 : Nat) : Int)).2) rfl _ 10 Try.call10 rfl rfl _ rfl [pK q1 0, .agg (c29 1 ((n1 + 1 : Nat) : Int))] rfl ((ux _ q1 id1 x1 mu tb HM 1 ((n1 + 1 : Nat) : Int)).mono fun e y ⟨ao1, cap1, fs1, mu', tb', he, hm, HL, HX, G, F1, F2⟩ => ⟨_, he, ⟨⟨G.gro hx.1 hge, G.has hx.2.1 (HM.not hx.2.1 (by decide) (by decide) (by decide)), hnext _ _ _ _ HX G F1⟩, StM.vals [0, 1, 2, 3, 4, 5, 6, 7, 8, 9, 10, 11, 12, 13, 14] (by kernel_rfl) ⟨⟨_, rfl⟩, ⟨_, rfl⟩, ⟨_, rfl⟩, ⟨_, rfl⟩, ⟨_, rfl⟩, ⟨_, rfl⟩, ⟨_, rfl⟩, ⟨_, rfl⟩, ⟨_, rfl⟩, ⟨_, rfl⟩, ⟨_, rfl⟩, ⟨_, rfl⟩, ⟨_, rfl⟩, ⟨_, rfl⟩, ⟨_, rfl⟩, trivial⟩⟩, ao1, cap1, fs1, rfl, hm, HL⟩)
  intro ptrs w5 HJ hxE
  simp only [List.drop_succ_cons, List.drop_zero]
  clear GG ktp H
  obtain ⟨GG, ktp, H⟩ := HJ
  clear ktp
  replace H : Tk w0.heap.size w5 tp q0 q1 id0 id1 x0 (riseS id1 x1 1 ((n1 + 1 : Nat) : Int)).1 n0 (n1 + 1) a0 c0 f0 a1 c1 f1 b0 e0 s0 b1 e1 s1 d0 k0 r0 d1 k1 r1 := H
  obtain ⟨⟨ao, cap, fs, hv, hm, HLl⟩, _⟩ := hxE
  simp only [hv]
  clear hv
  have hone := Jb id1 x1 1 ((n1 + 1 : Nat) : Int) hm
  refine jt 38 rfl rfl _ 32 Try.call32 rfl rfl _ rfl [pK tp 0, iK 1, .slice ao fs.length cap] rfl (say1 w0 _ GG _ _ _ _ _ _ _ _ _ _ _ _ _ _ _ _ _ _ _ _ _ _ _ _ _ _ _ H ao cap fs HLl (by omega) hfl (.inl hone)) (fun _ _ ⟨he, _⟩ => ⟨_, he⟩) ?_
  rintro v w6 ⟨he, GG2, a2, c2, f2, H2, hfl2, hmem2⟩
  cases he
  clear GG H
  have GG := GG2
  have H := H2
  clear GG2 H2
  refine wpList_nil ?_
  refine jN (results_none Try.results31 _ _ _) rfl ?_
  exact ⟨rfl, GG, a2, c2, f2, H, hfl2, fun y hy => (hmem2 y hy).imp (fun h => h) fun h => by rw [← hm]; exact h⟩
end Go.Proofs.Ytlfanecaglbomaa
