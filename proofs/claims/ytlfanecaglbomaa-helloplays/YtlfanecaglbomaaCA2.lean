/- Laws of earlier stages, turned to this program (A2). -/
import Derived.Test.YtlfanecaglbomaaCA1
namespace Go.Proofs.Ytlfanecaglbomaa
set_option maxRecDepth 100000
set_option maxHeartbeats 4000000
open Go.RowKit
theorem kind_2 (x0 : Int) (x1 : Int) (x2 : Int) (x3 : Int) (x4 : Int) (x5 : Sl) (w : World) : Calls Try.prog 86 #[.agg (c125 x0 x1 x2 x3 x4 x5)] w fun e w' => e = .returned (iK 2) ∧ Gro w w' := by
  refine jK Try.func86 rfl Try.ntmps86 [.agg (c125 x0 x1 x2 x3 x4 x5)] [.agg (c125 x0 x1 x2 x3 x4 x5), undef, undef] rfl ?_
  have GG := Gro.refl w
  refine wp_seq (wp_region_lit ?_)
  refine jB 1 rfl rfl 125 _ rfl _ rfl (c125 x0 x1 x2 x3 x4 x5) rfl ?_
  intro w1 g1 G eg1 kg1
  have bg1 := jm GG eg1
  replace GG := GG.trans G
  clear G eg1
  refine mv 2 (iK 0) (wpList_nil (jc (wp_seq (wp_region_lit (mv 2 (iK 2) ?_)))))
  simp only [z0, z1]
  refine wpList_nil (jc (wp_ret ?_))
  refine bodyPost_ret (results_tmp Try.results86 _ _ _) rfl ?_
  exact ⟨rfl, GG⟩
theorem kind_3 (x0 : Int) (x1 : Int) (x2 : Int) (x3 : Int) (x4 : Int) (w : World) : Calls Try.prog 87 #[.agg (c129 x0 x1 x2 x3 x4)] w fun e w' => e = .returned (iK 3) ∧ Gro w w' := by
  refine jK Try.func87 rfl Try.ntmps87 [.agg (c129 x0 x1 x2 x3 x4)] [.agg (c129 x0 x1 x2 x3 x4), undef, undef] rfl ?_
  have GG := Gro.refl w
  refine wp_seq (wp_region_lit ?_)
  refine jB 1 rfl rfl 129 _ rfl _ rfl (c129 x0 x1 x2 x3 x4) rfl ?_
  intro w1 g1 G eg1 kg1
  have bg1 := jm GG eg1
  replace GG := GG.trans G
  clear G eg1
  refine mv 2 (iK 0) (wpList_nil (jc (wp_seq (wp_region_lit (mv 2 (iK 3) ?_)))))
  simp only [z0, z1]
  refine wpList_nil (jc (wp_ret ?_))
  refine bodyPost_ret (results_tmp Try.results87 _ _ _) rfl ?_
  exact ⟨rfl, GG⟩
theorem kind_4 (x0 : Nat → Nat) (x1 : Int) (x2 : Nat → Nat) (x3 : Nat → Nat) (x4 : Sl) (w : World) : Calls Try.prog 88 #[.agg (c133 x0 x1 x2 x3 x4)] w fun e w' => e = .returned (iK 4) ∧ Gro w w' := by
  refine jK Try.func88 rfl Try.ntmps88 [.agg (c133 x0 x1 x2 x3 x4)] [.agg (c133 x0 x1 x2 x3 x4), undef, undef] rfl ?_
  have GG := Gro.refl w
  refine wp_seq (wp_region_lit ?_)
  refine jB 1 rfl rfl 133 _ rfl _ rfl (c133 x0 x1 x2 x3 x4) rfl ?_
  intro w1 g1 G eg1 kg1
  have bg1 := jm GG eg1
  replace GG := GG.trans G
  clear G eg1
  refine mv 2 (iK 0) (wpList_nil (jc (wp_seq (wp_region_lit (mv 2 (iK 4) ?_)))))
  simp only [z0, z1]
  refine wpList_nil (jc (wp_ret ?_))
  refine bodyPost_ret (results_tmp Try.results88 _ _ _) rfl ?_
  exact ⟨rfl, GG⟩
theorem kind_5 (x0 : Nat → Nat) (x1 : Int) (w : World) : Calls Try.prog 89 #[.agg (c135 x0 x1)] w fun e w' => e = .returned (iK 5) ∧ Gro w w' := by
  refine jK Try.func89 rfl Try.ntmps89 [.agg (c135 x0 x1)] [.agg (c135 x0 x1), undef, undef] rfl ?_
  have GG := Gro.refl w
  refine wp_seq (wp_region_lit ?_)
  refine jB 1 rfl rfl 135 _ rfl _ rfl (c135 x0 x1) rfl ?_
  intro w1 g1 G eg1 kg1
  have bg1 := jm GG eg1
  replace GG := GG.trans G
  clear G eg1
  refine mv 2 (iK 0) (wpList_nil (jc (wp_seq (wp_region_lit (mv 2 (iK 5) ?_)))))
  simp only [z0, z1]
  refine wpList_nil (jc (wp_ret ?_))
  refine bodyPost_ret (results_tmp Try.results89 _ _ _) rfl ?_
  exact ⟨rfl, GG⟩
theorem kind_6 (x0 : Nat → Nat) (x1 : Int) (x2 : Bool) (w : World) : Calls Try.prog 90 #[.agg (c137 x0 x1 x2)] w fun e w' => e = .returned (iK 6) ∧ Gro w w' := by
  refine jK Try.func90 rfl Try.ntmps90 [.agg (c137 x0 x1 x2)] [.agg (c137 x0 x1 x2), undef, undef] rfl ?_
  have GG := Gro.refl w
  refine wp_seq (wp_region_lit ?_)
  refine jB 1 rfl rfl 137 _ rfl _ rfl (c137 x0 x1 x2) rfl ?_
  intro w1 g1 G eg1 kg1
  have bg1 := jm GG eg1
  replace GG := GG.trans G
  clear G eg1
  refine mv 2 (iK 0) (wpList_nil (jc (wp_seq (wp_region_lit (mv 2 (iK 6) ?_)))))
  simp only [z0, z1]
  refine wpList_nil (jc (wp_ret ?_))
  refine bodyPost_ret (results_tmp Try.results90 _ _ _) rfl ?_
  exact ⟨rfl, GG⟩
theorem kind_7 (x0 : Nat → Nat) (x1 : Int) (x2 : Bool) (x3 : Sl) (w : World) : Calls Try.prog 91 #[.agg (c139 x0 x1 x2 x3)] w fun e w' => e = .returned (iK 7) ∧ Gro w w' := by
  refine jK Try.func91 rfl Try.ntmps91 [.agg (c139 x0 x1 x2 x3)] [.agg (c139 x0 x1 x2 x3), undef, undef] rfl ?_
  have GG := Gro.refl w
  refine wp_seq (wp_region_lit ?_)
  refine jB 1 rfl rfl 139 _ rfl _ rfl (c139 x0 x1 x2 x3) rfl ?_
  intro w1 g1 G eg1 kg1
  have bg1 := jm GG eg1
  replace GG := GG.trans G
  clear G eg1
  refine mv 2 (iK 0) (wpList_nil (jc (wp_seq (wp_region_lit (mv 2 (iK 7) ?_)))))
  simp only [z0, z1]
  refine wpList_nil (jc (wp_ret ?_))
  refine bodyPost_ret (results_tmp Try.results91 _ _ _) rfl ?_
  exact ⟨rfl, GG⟩
theorem kind_8 (x0 : Nat → Nat) (x1 : Nat → Nat) (x2 : Int) (x3 : Nat → Nat) (x4 : Int) (x5 : Bool) (x6 : Sl) (w : World) : Calls Try.prog 92 #[.agg (c141 x0 x1 x2 x3 x4 x5 x6)] w fun e w' => e = .returned (iK 8) ∧ Gro w w' := by
  refine jK Try.func92 rfl Try.ntmps92 [.agg (c141 x0 x1 x2 x3 x4 x5 x6)] [.agg (c141 x0 x1 x2 x3 x4 x5 x6), undef, undef] rfl ?_
  have GG := Gro.refl w
  refine wp_seq (wp_region_lit ?_)
  refine jB 1 rfl rfl 141 _ rfl _ rfl (c141 x0 x1 x2 x3 x4 x5 x6) rfl ?_
  intro w1 g1 G eg1 kg1
  have bg1 := jm GG eg1
  replace GG := GG.trans G
  clear G eg1
  refine mv 2 (iK 0) (wpList_nil (jc (wp_seq (wp_region_lit (mv 2 (iK 8) ?_)))))
  simp only [z0, z1]
  refine wpList_nil (jc (wp_ret ?_))
  refine bodyPost_ret (results_tmp Try.results92 _ _ _) rfl ?_
  exact ⟨rfl, GG⟩
theorem kind_9 (x0 : Nat → Nat) (x1 : Int) (w : World) : Calls Try.prog 93 #[.agg (c143 x0 x1)] w fun e w' => e = .returned (iK 9) ∧ Gro w w' := by
  refine jK Try.func93 rfl Try.ntmps93 [.agg (c143 x0 x1)] [.agg (c143 x0 x1), undef, undef] rfl ?_
  have GG := Gro.refl w
  refine wp_seq (wp_region_lit ?_)
  refine jB 1 rfl rfl 143 _ rfl _ rfl (c143 x0 x1) rfl ?_
  intro w1 g1 G eg1 kg1
  have bg1 := jm GG eg1
  replace GG := GG.trans G
  clear G eg1
  refine mv 2 (iK 0) (wpList_nil (jc (wp_seq (wp_region_lit (mv 2 (iK 9) ?_)))))
  simp only [z0, z1]
  refine wpList_nil (jc (wp_ret ?_))
  refine bodyPost_ret (results_tmp Try.results93 _ _ _) rfl ?_
  exact ⟨rfl, GG⟩
theorem kind_10 (x0 : Nat → Nat) (x1 : Nat → Nat) (x2 : Int) (x3 : Int) (x4 : Int) (x5 : Nat → Nat) (x6 : Int) (x7 : Nat → Nat) (x8 : Sl) (x9 : Sl) (w : World) : Calls Try.prog 94 #[.agg (c145 x0 x1 x2 x3 x4 x5 x6 x7 x8 x9)] w fun e w' => e = .returned (iK 10) ∧ Gro w w' := by
  refine jK Try.func94 rfl Try.ntmps94 [.agg (c145 x0 x1 x2 x3 x4 x5 x6 x7 x8 x9)] [.agg (c145 x0 x1 x2 x3 x4 x5 x6 x7 x8 x9), undef, undef] rfl ?_
  have GG := Gro.refl w
  refine wp_seq (wp_region_lit ?_)
  refine jB 1 rfl rfl 145 _ rfl _ rfl (c145 x0 x1 x2 x3 x4 x5 x6 x7 x8 x9) rfl ?_
  intro w1 g1 G eg1 kg1
  have bg1 := jm GG eg1
  replace GG := GG.trans G
  clear G eg1
  refine mv 2 (iK 0) (wpList_nil (jc (wp_seq (wp_region_lit (mv 2 (iK 10) ?_)))))
  simp only [z0, z1]
  refine wpList_nil (jc (wp_ret ?_))
  refine bodyPost_ret (results_tmp Try.results94 _ _ _) rfl ?_
  exact ⟨rfl, GG⟩
theorem kind_11 (x0 : Nat → Nat) (x1 : Int) (x2 : Bool) (x3 : Nat → Nat) (x4 : Int) (x5 : Nat → Nat) (x6 : Sl) (w : World) : Calls Try.prog 95 #[.agg (c147 x0 x1 x2 x3 x4 x5 x6)] w fun e w' => e = .returned (iK 11) ∧ Gro w w' := by
  refine jK Try.func95 rfl Try.ntmps95 [.agg (c147 x0 x1 x2 x3 x4 x5 x6)] [.agg (c147 x0 x1 x2 x3 x4 x5 x6), undef, undef] rfl ?_
  have GG := Gro.refl w
  refine wp_seq (wp_region_lit ?_)
  refine jB 1 rfl rfl 147 _ rfl _ rfl (c147 x0 x1 x2 x3 x4 x5 x6) rfl ?_
  intro w1 g1 G eg1 kg1
  have bg1 := jm GG eg1
  replace GG := GG.trans G
  clear G eg1
  refine mv 2 (iK 0) (wpList_nil (jc (wp_seq (wp_region_lit (mv 2 (iK 11) ?_)))))
  simp only [z0, z1]
  refine wpList_nil (jc (wp_ret ?_))
  refine bodyPost_ret (results_tmp Try.results95 _ _ _) rfl ?_
  exact ⟨rfl, GG⟩
theorem kind_12 (x0 : Nat → Nat) (x1 : Int) (x2 : Bool) (x3 : Nat → Nat) (x4 : Int) (x5 : Nat → Nat) (w : World) : Calls Try.prog 96 #[.agg (c149 x0 x1 x2 x3 x4 x5)] w fun e w' => e = .returned (iK 12) ∧ Gro w w' := by
  refine jK Try.func96 rfl Try.ntmps96 [.agg (c149 x0 x1 x2 x3 x4 x5)] [.agg (c149 x0 x1 x2 x3 x4 x5), undef, undef] rfl ?_
  have GG := Gro.refl w
  refine wp_seq (wp_region_lit ?_)
  refine jB 1 rfl rfl 149 _ rfl _ rfl (c149 x0 x1 x2 x3 x4 x5) rfl ?_
  intro w1 g1 G eg1 kg1
  have bg1 := jm GG eg1
  replace GG := GG.trans G
  clear G eg1
  refine mv 2 (iK 0) (wpList_nil (jc (wp_seq (wp_region_lit (mv 2 (iK 12) ?_)))))
  simp only [z0, z1]
  refine wpList_nil (jc (wp_ret ?_))
  refine bodyPost_ret (results_tmp Try.results96 _ _ _) rfl ?_
  exact ⟨rfl, GG⟩
theorem Yu (k : Nat) (h1 : 1 ≤ k) (h2 : k ≤ 12) (f : Fr) : KindOK (bodyV k f) (k : Int) := by
  rcases is12 h1 h2 with rfl | rfl | rfl | rfl | rfl | rfl | rfl | rfl | rfl | rfl | rfl | rfl
  · exact ⟨fun w => ⟨85, [.agg (c110 f.fi f.fn f.ti f.tn f.a)], by kernel_rfl, kind_1 f.fi f.fn f.ti f.tn f.a w⟩⟩
  · exact ⟨fun w => ⟨86, [.agg (c125 f.fi f.fn f.ti f.tn f.n f.tx)], by kernel_rfl, kind_2 f.fi f.fn f.ti f.tn f.n f.tx w⟩⟩
  · exact ⟨fun w => ⟨87, [.agg (c129 f.fi f.fn f.ti f.tn f.n)], by kernel_rfl, kind_3 f.fi f.fn f.ti f.tn f.n w⟩⟩
  · exact ⟨fun w => ⟨88, [.agg (c133 f.pw f.pn f.a f.b f.tr)], by kernel_rfl, kind_4 f.pw f.pn f.a f.b f.tr w⟩⟩
  · exact ⟨fun w => ⟨89, [.agg (c135 f.pw f.pn)], by kernel_rfl, kind_5 f.pw f.pn w⟩⟩
  · exact ⟨fun w => ⟨90, [.agg (c137 f.pw f.pn f.toA)], by kernel_rfl, kind_6 f.pw f.pn f.toA w⟩⟩
  · exact ⟨fun w => ⟨91, [.agg (c139 f.pw f.pn f.toA f.ids)], by kernel_rfl, kind_7 f.pw f.pn f.toA f.ids w⟩⟩
  · exact ⟨fun w => ⟨92, [.agg (c141 f.a f.b f.op f.pw f.pn f.toA f.tr)], by kernel_rfl, kind_8 f.a f.b f.op f.pw f.pn f.toA f.tr w⟩⟩
  · exact ⟨fun w => ⟨93, [.agg (c143 f.a f.n)], by kernel_rfl, kind_9 f.a f.n w⟩⟩
  · exact ⟨fun w => ⟨94, [.agg (c145 f.a f.b f.n f.op f.ttl f.key f.vn f.vw f.val f.tx)], by kernel_rfl, kind_10 f.a f.b f.n f.op f.ttl f.key f.vn f.vw f.val f.tx w⟩⟩
  · exact ⟨fun w => ⟨95, [.agg (c147 f.pw f.pn f.toA f.key f.vn f.vw f.val)], by kernel_rfl, kind_11 f.pw f.pn f.toA f.key f.vn f.vw f.val w⟩⟩
  · exact ⟨fun w => ⟨96, [.agg (c149 f.pw f.pn f.toA f.key f.vn f.vw)], by kernel_rfl, kind_12 f.pw f.pn f.toA f.key f.vn f.vw w⟩⟩
theorem FrW.kind {w : World} {f : Fr} {d : FD} (h : FrW w f d) (k : Int) : FrW w { f with kind := k } d := ⟨h.tr, h.ids, h.val, h.tx, h.oids, h.oval, h.otx⟩
def bareD (k : Nat) (d : FD) : FD :=
  ⟨if k = 4 ∨ k = 8 then d.tr else [], if k = 7 then d.ids else [], if k = 10 ∨ k = 11 then d.val else [], if k = 2 ∨ k = 10 then d.tx else []⟩
theorem xc_nil (w : World) (sz : Nat) : XC w sz Sl.nil.ao Sl.nil.cap Sl.nil.n [] := XC.nil w sz
theorem FrW.bare {w : World} {f : Fr} {d : FD} (h : FrW w f d) (k : Nat) (h1 : 1 ≤ k) (h2 : k ≤ 12) : FrW w (bare k f) (bareD k d) := by
  rcases is12 h1 h2 with rfl | rfl | rfl | rfl | rfl | rfl | rfl | rfl | rfl | rfl | rfl | rfl <;>
    refine ⟨?_, ?_, ?_, ?_, ?_, ?_, ?_⟩ <;>
    first
    | exact h.tr | exact h.ids | exact h.val | exact h.tx | exact h.oids | exact h.oval | exact h.otx
    | exact xc_nil w _ | (intro x hx; cases hx)
structure Small (n b : Nat) : Prop where
  out : n * b ≤ 140737488355328
theorem zl (b : Nat) : Small Sl.nil.n b := ⟨by show 0 * b ≤ _; omega⟩
structure FrS (f : Fr) : Prop where
  tr : Small f.tr.n 8
  ids : Small f.ids.n 16
  val : Small f.val.n 1
  tx : Small f.tx.n 1
theorem FrS.bare {f : Fr} (h : FrS f) (k : Nat) (h1 : 1 ≤ k) (h2 : k ≤ 12) : FrS (bare k f) := by
  rcases is12 h1 h2 with rfl | rfl | rfl | rfl | rfl | rfl | rfl | rfl | rfl | rfl | rfl | rfl <;>
    refine ⟨?_, ?_, ?_, ?_⟩ <;>
    first
    | exact h.tr | exact h.ids | exact h.val | exact h.tx | exact zl _
def AP (w : World) (g : Fr) (d : FD) (v : Fr → Value) (e : Ending) (w' : World) : Prop := ∃ s1 s2 s3 s4 : Sl, e = .returned (v { g with tr := s1, ids := s2, val := s3, tx := s4 }) ∧ FrO w' w.heap.size { g with tr := s1, ids := s2, val := s3, tx := s4 } d ∧ Gro w w'
theorem FrO.apart {w w' : World} {B g : Nat} {f : Fr} {d : FD} {x : Obj} (h : FrO w B f d) (S : Stored w w' g x) (hg : g < B) : FrO w' B f d :=
  ⟨h.tr.apart S (fun ad ha => by have := h.tr.ge ad ha; omega), h.ids.apart S (fun ad ha => by have := h.ids.ge ad ha; omega), h.val.apart S (fun ad ha => by have := h.val.ge ad ha; omega), h.tx.apart S (fun ad ha => by have := h.tx.ge ad ha; omega), h.oids, h.oval, h.otx⟩
theorem Zz (b : Value) (g : Fr) (dd : FD) (k : Int) (w : World) (Hf : ∀ w, Calls Try.prog 61 #[b] w fun e w' => e = .returned (.tuple #[.agg (c46 g.kind g.pw g.pn g.toA g.a g.b g.n g.fi g.fn g.ti g.tn g.tr g.ids g.key g.vn g.vw g.val g.op g.ttl g.tx), vTr]) ∧ Gro w w') (HK : KindOK b k) (HW : FrW w g dd) (HS : FrS { g with kind := k }) : Calls Try.prog 50 #[b] w (AP w { g with kind := k } dd fun f => .agg (frA f)) := by
  refine jK Try.func50 rfl Try.ntmps50 [b] [b, undef, undef, undef, undef, undef, undef, undef, undef, undef, undef, undef, undef, undef, undef, undef, undef, undef] rfl ?_
  have GG := Gro.refl w
  refine wp_seq (wp_region_lit ?_)
  refine jq 2 rfl rfl 46 rfl _ zv46 _ rfl ?_
  intro w1 g1 G eg1 kg1
  have bg1 := jm GG eg1
  replace GG := GG.trans G
  clear G eg1
  refine wpList_nil (jc (wp_seq (wp_region_lit (mv 6 (b) ?_))))
  refine jz 7 rfl rfl _ 61 Try.call61 rfl rfl _ rfl [b] rfl (Hf _) ?_
  intro w2 G
  replace kg1 := G.has kg1
  replace GG := GG.trans G
  clear G
  simp only [z0, z1]
  refine mv 5 (.tuple #[.agg (c46 g.kind g.pw g.pn g.toA g.a g.b g.n g.fi g.fn g.ti g.tn g.tr g.ids g.key g.vn g.vw g.val g.op g.ttl g.tx), vTr]) (mv 8 (.agg (c46 g.kind g.pw g.pn g.toA g.a g.b g.n g.fi g.fn g.ti g.tn g.tr g.ids g.key g.vn g.vw g.val g.op g.ttl g.tx)) (mv 9 (vTr) ?_))
  simp only [z0, z1]
  refine jq 3 rfl rfl 46 rfl _ zv46 _ rfl ?_
  intro w3 g2 G eg2 kg2
  have bg2 := jm GG eg2
  have dg1g2 := je kg1 eg2
  replace kg1 := G.has kg1
  replace GG := GG.trans G
  clear G eg2
  refine jn rfl rfl 46 _ _ rfl g2 0 rfl (.agg (c46 g.kind g.pw g.pn g.toA g.a g.b g.n g.fi g.fn g.ti g.tn g.tr g.ids g.key g.vn g.vw g.val g.op g.ttl g.tx)) rfl 46 _ kg2 (c46 g.kind g.pw g.pn g.toA g.a g.b g.n g.fi g.fn g.ti g.tn g.tr g.ids g.key g.vn g.vw g.val g.op g.ttl g.tx) rfl (by kernel_rfl) (nlB rfl) (by kernel_rfl) (c46 g.kind g.pw g.pn g.toA g.a g.b g.n g.fi g.fn g.ti g.tn g.tr g.ids g.key g.vn g.vw g.val g.op g.ttl g.tx) (by kernel_rfl) ?_
  intro w5 S
  replace kg1 := S.has (by omega) kg1
  replace GG := GG.store S bg2
  replace kg2 := S.new
  clear S
  refine mv 4 (vTr) (wpList_nil (jc (wp_seq (wp_seq (wp_region_lit (mv 10 (vTr) ?_))))))
  simp only [z0, z1]
  refine sv 11 (vFa) (jE _ _ rfl true rfl) (wpList_nil (jc (wp_cond_false rfl (wp_skip (jc (wp_seq (wp_region_lit (mv 13 (b) ?_))))))))
  simp only [z0, z1]
  refine Zs 14 rfl rfl _ rfl (b) rfl k HK ?_
  intro w6 G
  replace kg1 := G.has kg1
  replace kg2 := G.has kg2
  replace GG := GG.trans G
  clear G
  refine sv 15 (pK g2 0) (jd 46 _ 0 rfl _ _ rfl _) ?_
  refine jn rfl rfl 3 _ _ rfl g2 0 rfl (iK k) rfl 46 _ kg2 #[iK k] rfl (by kernel_rfl) (nlB rfl) (by kernel_rfl) (c46 k g.pw g.pn g.toA g.a g.b g.n g.fi g.fn g.ti g.tn g.tr g.ids g.key g.vn g.vw g.val g.op g.ttl g.tx) (by kernel_rfl) ?_
  intro w8 S
  replace kg1 := S.has (by omega) kg1
  replace GG := GG.store S bg2
  replace kg2 := S.new
  clear S
  refine wpList_nil (jc (wp_seq (wp_region_lit (sv 16 (.agg (c46 k g.pw g.pn g.toA g.a g.b g.n g.fi g.fn g.ti g.tn g.tr g.ids g.key g.vn g.vw g.val g.op g.ttl g.tx)) (jf 46 _ rfl g2 0 95 rfl 46 _ kg2 _ Try.underlying46 rfl si46 _) ?_))))
  simp only [z0, z1]
  have dag1 := ju kg1
  have dag2 := ju kg2
  have qa := GG.size
  refine jD 17 rfl rfl _ 54 Try.call54 rfl rfl _ rfl [.agg (c46 k g.pw g.pn g.toA g.a g.b g.n g.fi g.fn g.ti g.tn g.tr g.ids g.key g.vn g.vw g.val g.op g.ttl g.tx)] rfl (vh { g with kind := k } dd _ ((HW.kind k).gro GG) HS.tr.out HS.ids.out HS.val.out HS.tx.out) (fun _ _ ⟨_, _, _, _, he, _⟩ => ⟨_, he⟩) ?_
  rintro v w9 ⟨s1, s2, s3, s4, he, HO, G⟩
  cases he
  replace kg1 := G.has kg1
  replace kg2 := G.has kg2
  replace GG := GG.trans G
  clear G
  refine jn rfl rfl 46 _ _ rfl g1 0 rfl (.agg (c46 k g.pw g.pn g.toA g.a g.b g.n g.fi g.fn g.ti g.tn s1 s2 g.key g.vn g.vw s3 g.op g.ttl s4)) rfl 46 _ kg1 (c46 k g.pw g.pn g.toA g.a g.b g.n g.fi g.fn g.ti g.tn s1 s2 g.key g.vn g.vw s3 g.op g.ttl s4) rfl (by kernel_rfl) (nlB rfl) (by kernel_rfl) (c46 k g.pw g.pn g.toA g.a g.b g.n g.fi g.fn g.ti g.tn s1 s2 g.key g.vn g.vw s3 g.op g.ttl s4) (by kernel_rfl) ?_
  intro w11 S
  replace kg2 := S.has (by omega) kg2
  replace HO := HO.apart S (by omega)
  replace GG := GG.store S bg1
  replace kg1 := S.new
  clear S
  refine wpList_nil (jc (wp_ret ?_))
  refine bodyPost_ret (results_cell_row Try.results50 _ _ g1 46 _ (0, 0) _ rfl kg1 Try.underlying46 rfl (by kernel_rfl)) rfl ?_
  exact ⟨s1, s2, s3, s4, rfl, HO.mono qa, GG⟩
theorem ve (k : Nat) (h1 : 1 ≤ k) (h2 : k ≤ 12) (f : Fr) (d : FD) (w : World) (HW : FrW w f d) (HS : FrS f) : Calls Try.prog 50 #[bodyV k f] w (AP w { bare k f with kind := (k : Int) } (bareD k d) fun f => .agg (frA f)) := by
  have h := HS.bare k h1 h2
  exact Zz (bodyV k f) (bare k f) (bareD k d) k w (JT k h1 h2 f) (Yu k h1 h2 f) (HW.bare k h1 h2) ⟨h.tr, h.ids, h.val, h.tx⟩
theorem uv (k : Nat) (h1 : 1 ≤ k) (h2 : k ≤ 12) (f : Fr) (hk : f.kind = (k : Int)) (dd : FD) (w : World) (HW : FrW w f dd) (HS : FrS f) : Calls Try.prog 43 #[.agg (frA f)] w (AP w f dd fun f => .tuple #[bodyV k f, vTr]) := by
  show Calls Try.prog 43 #[.agg (c46 f.kind f.pw f.pn f.toA f.a f.b f.n f.fi f.fn f.ti f.tn f.tr f.ids f.key f.vn f.vw f.val f.op f.ttl f.tx)] w _
  refine jK Try.func43 rfl Try.ntmps43 [.agg (c46 f.kind f.pw f.pn f.toA f.a f.b f.n f.fi f.fn f.ti f.tn f.tr f.ids f.key f.vn f.vw f.val f.op f.ttl f.tx)] [.agg (c46 f.kind f.pw f.pn f.toA f.a f.b f.n f.fi f.fn f.ti f.tn f.tr f.ids f.key f.vn f.vw f.val f.op f.ttl f.tx), undef, undef, undef, undef, undef, undef, undef, undef, undef, undef] rfl ?_
  have GG := Gro.refl w
  refine wp_seq (wp_region_lit ?_)
  refine jB 1 rfl rfl 46 _ rfl _ rfl (c46 f.kind f.pw f.pn f.toA f.a f.b f.n f.fi f.fn f.ti f.tn f.tr f.ids f.key f.vn f.vw f.val f.op f.ttl f.tx) rfl ?_
  intro w1 g1 G eg1 kg1
  have bg1 := jm GG eg1
  replace GG := GG.trans G
  clear G eg1
  refine mv 2 (.nilIface) (mv 3 (vFa) ?_)
  simp only [z0, z1]
  refine wpList_nil (jc (wp_seq (wp_region_lit (sv 5 (.agg (c46 f.kind f.pw f.pn f.toA f.a f.b f.n f.fi f.fn f.ti f.tn f.tr f.ids f.key f.vn f.vw f.val f.op f.ttl f.tx)) (jf 46 _ rfl g1 0 95 rfl 46 _ kg1 _ Try.underlying46 rfl si46 _) ?_))))
  simp only [z0, z1]
  have dag1 := ju kg1
  have qa := GG.size
  refine jD 6 rfl rfl _ 54 Try.call54 rfl rfl _ rfl [.agg (c46 f.kind f.pw f.pn f.toA f.a f.b f.n f.fi f.fn f.ti f.tn f.tr f.ids f.key f.vn f.vw f.val f.op f.ttl f.tx)] rfl (vh f dd _ (HW.gro GG) HS.tr.out HS.ids.out HS.val.out HS.tx.out) (fun _ _ ⟨_, _, _, _, he, _⟩ => ⟨_, he⟩) ?_
  rintro v w2 ⟨s1, s2, s3, s4, he, HO, G⟩
  cases he
  replace kg1 := G.has kg1
  replace GG := GG.trans G
  clear G
  simp only [z0, z1]
  obtain ⟨tb, vb, hb⟩ := YR k h1 h2 { f with tr := s1, ids := s2, val := s3, tx := s4 }
  have HBd := fun w => YQ k h1 h2 { f with tr := s1, ids := s2, val := s3, tx := s4 } hk w
  simp only [hb] at HBd
  refine jz 7 rfl rfl _ 53 Try.call53 rfl rfl _ rfl [.agg (c46 f.kind f.pw f.pn f.toA f.a f.b f.n f.fi f.fn f.ti f.tn s1 s2 f.key f.vn f.vw s3 f.op f.ttl s4)] rfl (HBd _) ?_
  intro w3 G
  replace kg1 := G.has kg1
  replace HO := HO.gro G
  replace GG := GG.trans G
  clear G
  simp only [z0, z1]
  clear HBd
  refine mv 4 (.iface tb (vb)) (wpList_nil (jc (wp_seq ?_)))
  refine jk (A := ?A) 4 [(0, 8), (1, 9), (2, 10), (3, 2)] [.val (.iface tb (vb)), .val (.iface tb (vb)), .val (vTr), .val (.iface tb (vb))] follows (by kernel_rfl) rfl ?hA (ja ?o0 (ja ?o1 (ja ?o2 (ja ?o3 jw)))) ?rest
  case hA =>
    intro ptrs
    simp only [full, foldSlots, filledE, postE, List.foldl_cons, List.foldl_nil, List.getD_cons_zero, List.getD_cons_succ, jr, List.set_cons_zero, List.set_cons_succ]
    exact rfl
  case o0 => exact fun _ _ _ _ => jg (v := .iface tb (vb)) _ rfl rfl rfl
  case o1 => exact fun _ _ _ _ => jg (v := .iface tb (vb)) _ rfl rfl rfl
  case o2 => exact fun _ _ hw _ => jb (v := vTr) rfl (jN .neq 106 _ _ _ rfl _ _ _ rfl rfl (by kernel_rfl) (by kernel_rfl))
  case o3 => exact fun _ _ _ _ => yj (v := .iface tb (vb)) _ rfl rfl rfl
  intro ptrs w4 GD hxE
  simp only [List.drop_succ_cons, List.drop_zero]
  replace kg1 := GD.has kg1
  replace HO := HO.gro ((Gro.refl _).drew.trans GD)
  replace GG := GG.drew.trans GD
  clear GD
  refine mv 3 (vTr) (wpList_nil (jc (wp_ret ?_)))
  refine bodyPost_ret (results_tmp2 Try.results43 _ _ _) rfl ?_
  exact ⟨s1, s2, s3, s4, by show Ending.returned (.tuple #[.iface tb vb, vTr]) = .returned (.tuple #[bodyV k { f with tr := s1, ids := s2, val := s3, tx := s4 }, vTr]); rw [hb], HO.mono qa, GG⟩
theorem of_not (f : Fr) (hk : ¬ (1 ≤ f.kind ∧ f.kind ≤ 12)) (dd : FD) (w : World) (HW : FrW w f dd) (HS : FrS f) : Calls Try.prog 43 #[.agg (frA f)] w fun e w' => e = .returned (.tuple #[.nilIface, vFa]) ∧ Gro w w' := by
  show Calls Try.prog 43 #[.agg (c46 f.kind f.pw f.pn f.toA f.a f.b f.n f.fi f.fn f.ti f.tn f.tr f.ids f.key f.vn f.vw f.val f.op f.ttl f.tx)] w _
  refine jK Try.func43 rfl Try.ntmps43 [.agg (c46 f.kind f.pw f.pn f.toA f.a f.b f.n f.fi f.fn f.ti f.tn f.tr f.ids f.key f.vn f.vw f.val f.op f.ttl f.tx)] [.agg (c46 f.kind f.pw f.pn f.toA f.a f.b f.n f.fi f.fn f.ti f.tn f.tr f.ids f.key f.vn f.vw f.val f.op f.ttl f.tx), undef, undef, undef, undef, undef, undef, undef, undef, undef, undef] rfl ?_
  have GG := Gro.refl w
  refine wp_seq (wp_region_lit ?_)
  refine jB 1 rfl rfl 46 _ rfl _ rfl (c46 f.kind f.pw f.pn f.toA f.a f.b f.n f.fi f.fn f.ti f.tn f.tr f.ids f.key f.vn f.vw f.val f.op f.ttl f.tx) rfl ?_
  intro w1 g1 G eg1 kg1
  have bg1 := jm GG eg1
  replace GG := GG.trans G
  clear G eg1
  refine mv 2 (.nilIface) (mv 3 (vFa) ?_)
  simp only [z0, z1]
  refine wpList_nil (jc (wp_seq (wp_region_lit (sv 5 (.agg (c46 f.kind f.pw f.pn f.toA f.a f.b f.n f.fi f.fn f.ti f.tn f.tr f.ids f.key f.vn f.vw f.val f.op f.ttl f.tx)) (jf 46 _ rfl g1 0 95 rfl 46 _ kg1 _ Try.underlying46 rfl si46 _) ?_))))
  simp only [z0, z1]
  have dag1 := ju kg1
  have qa := GG.size
  refine jD 6 rfl rfl _ 54 Try.call54 rfl rfl _ rfl [.agg (c46 f.kind f.pw f.pn f.toA f.a f.b f.n f.fi f.fn f.ti f.tn f.tr f.ids f.key f.vn f.vw f.val f.op f.ttl f.tx)] rfl (vh f dd _ (HW.gro GG) HS.tr.out HS.ids.out HS.val.out HS.tx.out) (fun _ _ ⟨_, _, _, _, he, _⟩ => ⟨_, he⟩) ?_
  rintro v w2 ⟨s1, s2, s3, s4, he, HO, G⟩
  cases he
  replace kg1 := G.has kg1
  replace GG := GG.trans G
  clear G
  refine jz 7 rfl rfl _ 53 Try.call53 rfl rfl _ rfl [.agg (c46 f.kind f.pw f.pn f.toA f.a f.b f.n f.fi f.fn f.ti f.tn s1 s2 f.key f.vn f.vw s3 f.op f.ttl s4)] rfl ((YP { f with tr := s1, ids := s2, val := s3, tx := s4 } hk _)) ?_
  intro w3 G
  replace kg1 := G.has kg1
  replace HO := HO.gro G
  replace GG := GG.trans G
  clear G
  refine mv 4 (.nilIface) ?_
  simp only [z0, z1]
  refine wpList_nil (jc (wp_seq ?_))
  refine jk (A := ?A) 4 [(0, 8), (1, 9), (2, 10), (3, 2)] [.val (.nilIface), .val (.nilIface), .val (vFa), .val (.nilIface)] follows (by kernel_rfl) rfl ?hA (ja ?o0 (ja ?o1 (ja ?o2 (ja ?o3 jw)))) ?rest
  case hA =>
    intro ptrs
    simp only [full, foldSlots, filledE, postE, List.foldl_cons, List.foldl_nil, List.getD_cons_zero, List.getD_cons_succ, jr, List.set_cons_zero, List.set_cons_succ]
    exact rfl
  case o0 => exact fun _ _ _ _ => jg (v := .nilIface) _ rfl rfl rfl
  case o1 => exact fun _ _ _ _ => jg (v := .nilIface) _ rfl rfl rfl
  case o2 => exact fun _ _ hw _ => jb (v := vFa) rfl (jN .neq 106 _ _ _ rfl _ _ _ rfl rfl (by kernel_rfl) (by kernel_rfl))
  case o3 => exact fun _ _ _ _ => yj (v := .nilIface) _ rfl rfl rfl
  intro ptrs w4 GD hxE
  simp only [List.drop_succ_cons, List.drop_zero]
  replace kg1 := GD.has kg1
  replace HO := HO.gro ((Gro.refl _).drew.trans GD)
  replace GG := GG.drew.trans GD
  clear GD
  refine mv 3 (vFa) (wpList_nil (jc (wp_ret ?_)))
  refine bodyPost_ret (results_tmp2 Try.results43 _ _ _) rfl ?_
  exact ⟨rfl, GG⟩
def sameB (f g : Fr) (df dg : FD) : Bool := (decide (idL f.pw = idL g.pw) && decide (f.pn = g.pn)) && (decide (f.toA = g.toA) && (decide (idL f.a = idL g.a) && (decide (idL f.b = idL g.b) && (decide (f.n = g.n) && ((decide (f.fi = g.fi) && decide (f.fn = g.fn)) && ((decide (f.ti = g.ti) && decide (f.tn = g.tn)) && (decide (f.op = g.op) && (decide (f.ttl = g.ttl) && (decide (df.tr = dg.tr) && (decide (df.ids = dg.ids) && (decide (df.tx = dg.tx) && (decide (idL f.key = idL g.key) && ((decide (f.vn = g.vn) && decide (idL f.vw = idL g.vw)) && decide (df.val = dg.val))))))))))))))
structure GroR (rb : Nat) (w w' : World) : Prop where
  os : w'.os = w.os
  tape : w'.tape = w.tape
  output : w'.output = w.output
  size : w.heap.size ≤ w'.heap.size
  old : ∀ k, k < w.heap.size → k ≠ rb → w'.heap[k]? = w.heap[k]?
theorem GroR.refl (rb : Nat) (w : World) : GroR rb w w := ⟨rfl, rfl, rfl, Nat.le_refl _, fun _ _ _ => rfl⟩
theorem GroR.trans {rb : Nat} {a b c : World} (h : GroR rb a b) (k : GroR rb b c) : GroR rb a c :=
  ⟨k.os.trans h.os, k.tape.trans h.tape, k.output.trans h.output, Nat.le_trans h.size k.size, fun i hi hn => (k.old i (Nat.lt_of_lt_of_le hi h.size) hn).trans (h.old i hi hn)⟩
theorem GroR.has {rb k : Nat} {a b : World} {x : Obj} (h : GroR rb a b) (hk : a.heap[k]? = some x) (hn : k ≠ rb) : b.heap[k]? = some x := by
  rw [h.old k (ju hk) hn]; exact hk
section
variable {P : Program}
structure PostS where
  kind : Nat
  value : Value
  type : TypeId
  cells : Array Value
  late : Array Value
  other : Nat
def PostS.val (v : Value) : PostS := ⟨0, v, 0, #[], #[], 0⟩
def PostS.new (t : TypeId) (cs late : Array Value) (j : Nat) : PostS := ⟨1, undef, t, cs, late, j⟩
def PostS.put (j : Nat) : PostS := ⟨2, undef, 0, #[], #[], j⟩
end
def thenR {α β : Type} (r : Except Nat (α × Nat)) (f : α → Nat → Except Nat (β × Nat)) : Except Nat (β × Nat) :=
  match r with
  | .error e => .error e
  | .ok (a, q) => f a q
structure Lay {α : Type} (R : List Nat → Nat → Except Nat (α × Nat)) (E : List Nat) (a : α) : Prop where
  ok : ∀ pre post, R (pre ++ (E ++ post)) pre.length = .ok (a, pre.length + E.length)
  cut : ∀ pre c, c < E.length → R (pre ++ E.take c) pre.length = .error 3
theorem Lay.bind {α β : Type} {R : List Nat → Nat → Except Nat (α × Nat)} {F : α → List Nat → Nat → Except Nat (β × Nat)} {E E2 : List Nat} {a : α} {b : β} (h : Lay R E a) (k : Lay (F a) E2 b) : Lay (fun l i => thenR (R l i) fun x q => F x l q) (E ++ E2) b := by
  refine ⟨fun pre post => ?_, fun pre c hc => ?_⟩
  · have h1 := h.ok pre (E2 ++ post)
    have h2 := k.ok (pre ++ E) post
    show thenR (R (pre ++ ((E ++ E2) ++ post)) pre.length) _ = _
    rw [List.append_assoc E, h1]
    show F a (pre ++ (E ++ (E2 ++ post))) (pre.length + E.length) = _
    rw [List.append_assoc, List.length_append] at h2
    rw [h2, List.length_append, Nat.add_assoc]
  · show thenR (R (pre ++ (E ++ E2).take c) pre.length) _ = _
    by_cases hlt : c < E.length
    · rw [List.take_append_of_le_length (Nat.le_of_lt hlt), h.cut pre c hlt]
      rfl
    · have e : (E ++ E2).take c = E ++ E2.take (c - E.length) := by
        rw [List.take_append, List.take_of_length_le (by omega)]
      rw [e, h.ok pre _]
      show F a (pre ++ (E ++ E2.take (c - E.length))) (pre.length + E.length) = _
      have h2 := k.cut (pre ++ E) (c - E.length) (by rw [List.length_append] at hc; omega)
      rw [List.append_assoc, List.length_append] at h2
      exact h2
theorem Lay.pure {β : Type} (b : β) : Lay (fun _ q => .ok (b, q)) [] b := ⟨fun _ _ => rfl, fun _ _ h => by cases h⟩
theorem Lay.map {α β : Type} {R : List Nat → Nat → Except Nat (α × Nat)} {E : List Nat} {a : α} (h : Lay R E a) (g : α → β) : Lay (fun l i => thenR (R l i) fun x q => .ok (g x, q)) E (g a) := by
  have := h.bind (F := fun x _ q => .ok (g x, q)) (Lay.pure (g a))
  rwa [List.append_nil] at this
structure FrR (f : Fr) : Prop where
  pw : okI f.pw
  a : okI f.a
  b : okI f.b
  key : okI f.key
  vw : okI f.vw
  pn : f.pn < 9223372036854775808
  n : f.n < 9223372036854775808
  fi : f.fi < 9223372036854775808
  fn : f.fn < 9223372036854775808
  ti : f.ti < 9223372036854775808
  tn : f.tn < 9223372036854775808
  vn : f.vn < 9223372036854775808
  op : f.op < 9223372036854775808
  ttl : f.ttl < 9223372036854775808
def Lens (d : FD) : Prop := d.tr.length ≤ 140737488355000 ∧ d.ids.length ≤ 140737488355000
structure EqF (f g : Fr) : Prop where
  pw : idL f.pw = idL g.pw
  pn : f.pn = g.pn
  toA : f.toA = g.toA
  a : idL f.a = idL g.a
  b : idL f.b = idL g.b
  n : f.n = g.n
  fi : f.fi = g.fi
  fn : f.fn = g.fn
  ti : f.ti = g.ti
  tn : f.tn = g.tn
  key : idL f.key = idL g.key
  vn : f.vn = g.vn
  vw : idL f.vw = idL g.vw
  op : f.op = g.op
  ttl : f.ttl = g.ttl
structure NZ {β : Type} (r : Except Nat β) : Prop where
  out : ∀ x, r = .error x → x ≠ 0
theorem NZ.ok {β : Type} (b : β) : NZ (.ok b : Except Nat β) := ⟨fun _ h => by cases h⟩
theorem NZ.bind {α β : Type} {r : Except Nat (α × Nat)} {f : α → Nat → Except Nat (β × Nat)} (h : NZ r) (hf : ∀ a q, NZ (f a q)) : NZ (thenR r f) := by
  cases r with
  | error e => exact ⟨fun x hx => by cases hx; exact h.out _ rfl⟩
  | ok p => exact hf p.1 p.2
section
open Go.ChangeShapes Go.WideShapes Go.ChangeAt Go.RowKit
theorem cells23 : Try.prog.cellsOf 23 = 16 := by kernel_rfl
end
section
open Go.ChangeShapes Go.WideShapes Go.ChangeAt Go.RowKit
variable {H : Type} {enc : TypeId × Value → H} {w : World} {base : Nat} {spare : Nat → Bool} {held : Bool}
theorem JM {fuel : Nat} {l : List Value} {x : DataW H × List MemPlace} (h : DataW.trod enc Try.prog w base spare held fuel 23 l = some x) : ∃ n, n < top ∧ l = (idA n).toList := by
  obtain ⟨xs, m, _, _, hl, hx, he⟩ := DataW.trod_array Try.underlying23 h
  rw [cells23] at hl
  have := Jk l.toArray (by simpa using hl) fun i hi => by
    have h1 := he i hi
    rw [List.getElem?_eq_getElem (by omega)] at h1
    obtain ⟨n, h2, _, h3⟩ := DataW.trod_int Try.underlying5 h1
    rw [cells5, Nat.mul_one] at h2
    refine ⟨n, ?_, ?_⟩
    · have h4 : (List.take 1 (List.drop i l))[0]? = some (.int .u8 n) := by rw [h2]; rfl
      rw [List.getElem?_take] at h4
      simpa using h4
    · have e1 : IntKind.u8.min = 0 := rfl
      have e2 : IntKind.u8.max = 255 := rfl
      simpa [Lit.wf, e1, e2] using h3
  obtain ⟨n, hn, hh⟩ := this
  exact ⟨n, hn, by rw [← hh]⟩
end
section
open Go.ChangeShapes Go.WideShapes Go.ChangeAt Go.RowKit
theorem yJ : ∀ {l : List (List Nat)}, ok16 l → (cellsI l).length = l.length * 16
  | [], _ => rfl
  | x :: l, h => by
    have h1 := (h x List.mem_cons_self).1
    have h2 := yJ (l := l) fun y hy => h y (List.mem_cons_of_mem _ hy)
    unfold cellsI at *
    rw [List.flatMap_cons, List.length_append, h2, List.length_cons, bL, List.length_map, h1]
    omega
theorem ck2 : Try.prog.cellsOf 2 = 1 := by kernel_rfl
theorem ck3 : Try.prog.cellsOf 3 = 1 := by kernel_rfl
theorem ck4 : Try.prog.cellsOf 4 = 1 := by kernel_rfl
theorem ck25 : Try.prog.cellsOf 38 = 17 := by kernel_rfl
theorem ck27 : Try.prog.cellsOf 29 = 2 := by kernel_rfl
theorem ck28 : Try.prog.cellsOf 39 = 1 := by kernel_rfl
theorem ck29 : Try.prog.cellsOf 40 = 1 := by kernel_rfl
theorem ck31 : Try.prog.cellsOf 42 = 17 := by kernel_rfl
theorem ck32 : Try.prog.cellsOf 36 = 1 := by kernel_rfl
theorem ck34 : Try.prog.cellsOf 44 = 34 := by kernel_rfl
theorem ck36 : Try.prog.cellsOf 46 = 95 := by kernel_rfl
theorem bk3 : Try.prog.bytesOf 3 = 8 := by kernel_rfl
theorem bk23 : Try.prog.bytesOf 23 = 16 := by kernel_rfl
theorem subSeg (cs : List Value) (off size o m : Nat) (h : o + m ≤ size) : (((cs.drop off).take size).drop o).take m = (cs.drop (off + o)).take m := by
  rw [List.drop_take, List.take_take, List.drop_drop]
  congr 1
  omega
theorem nextSeg {cs l : List Value} {off n b : Nat} (h : (cs.drop off).take n = l) (hb : off + n = b) : cs.drop off = l ++ cs.drop b := by
  rw [← h, ← hb, ← List.drop_drop, List.take_append_drop]
theorem Yx (n : Nat) : (idA n).toList = bL (idL (byt n)) := by
  simp [idA, bL, idL, List.ofFn_succ]
theorem byt_ok (n : Nat) : okI (byt n) := fun i => byt_lt n i
end
section
open Go.ChangeShapes Go.WideShapes Go.ChangeAt Go.RowKit
variable {H : Type} {enc : TypeId × Value → H} {w : World} {base : Nat} {spare : Nat → Bool} {held : Bool}
theorem zM {t : TypeId} {fuel : Nat} {l : List Value} {x : DataW H × List MemPlace} (hu : Try.prog.underlying t = some (.int .i64)) (h : DataW.trod enc Try.prog w base spare held fuel t l = some x) : ∃ z : Int, l = [iK z] ∧ z < 9223372036854775808 := by
  obtain ⟨z, e, _, wf⟩ := DataW.trod_int hu h
  refine ⟨z, e, ?_⟩
  have e1 : IntKind.i64.min = -9223372036854775808 := rfl
  have e2 : IntKind.i64.max = 9223372036854775807 := rfl
  simp [Lit.wf, e1, e2] at wf
  omega
theorem yE {fuel : Nat} {l : List Value} {x : DataW H × List MemPlace} (h : DataW.trod enc Try.prog w base spare held fuel 23 l = some x) : ∃ y : Nat → Nat, l = bL (idL y) ∧ okI y := by
  obtain ⟨n, _, e⟩ := JM h
  exact ⟨byt n, by rw [e, Yx], byt_ok n⟩
end
theorem EqF.trans {f g h : Fr} (a : EqF f g) (b : EqF g h) : EqF f h := ⟨a.pw.trans b.pw, a.pn.trans b.pn, a.toA.trans b.toA, a.a.trans b.a, a.b.trans b.b, a.n.trans b.n, a.fi.trans b.fi, a.fn.trans b.fn, a.ti.trans b.ti, a.tn.trans b.tn, a.key.trans b.key, a.vn.trans b.vn, a.vw.trans b.vw, a.op.trans b.op, a.ttl.trans b.ttl⟩
theorem OX.ty {w : World} {e : TypeId} {sz B : Nat} {ao : Option Addr} {cap n : Nat} {cs : List Value} (h : OX w e sz B ao cap n cs) {ad : Addr} (ha : ao = some ad) : ∃ cur, w.heap[ad.block]? = some (.cells cur e (0, 0)) := by
  rcases h.own.2 with ⟨h1, _⟩ | ⟨g, c', cur, h1, _, h2, _⟩
  · injection h1 with e1 e2 e3
    rw [ha] at e1
    cases e1
  · injection h1 with e1 e2 e3
    rw [ha] at e1
    injection e1 with e1
    subst e1
    exact ⟨cur, h2⟩
theorem Zo {a b : List Nat} (h : ∀ x ∈ a, x < 256) (h' : ∀ x ∈ b, x < 256) : decide (bas a = bas b) = decide (a = b) := decide_eq_decide.mpr ⟨Zn h h', fun e => by rw [e]⟩
theorem vX {α : Type} (l m : List α) (z : α) (j : Nat) (h : l.take j = m.take j) (h1 : j < l.length) (h2 : j < m.length) (e : l.getD j z = m.getD j z) : l.take (j + 1) = m.take (j + 1) := by
  rw [List.getD_eq_getElem?_getD, List.getD_eq_getElem?_getD, List.getElem?_eq_getElem h1, List.getElem?_eq_getElem h2] at e
  rw [List.take_add_one, List.take_add_one, h, List.getElem?_eq_getElem h1, List.getElem?_eq_getElem h2]
  have e : l[j] = m[j] := e
  rw [e]
def sameK (f g : Fr) (df dg : FD) : Bool := decide (f.kind = g.kind) && sameB f g df dg
def itemB (f g : Fr) (df dg : FD) : Bool := decide (idL f.key = idL g.key) && ((decide (f.vn = g.vn) && decide (idL f.vw = idL g.vw)) && decide (df.val = dg.val))
theorem ze {f g : Fr} {df dg : FD} (h : ¬ df.tr = dg.tr) : false = sameK f g df dg := by
  simp [sameK, sameB, h]
theorem jY {f g : Fr} {df dg : FD} (h : ¬ df.ids = dg.ids) : false = sameK f g df dg := by
  simp [sameK, sameB, h]
theorem Jw (f g : Fr) (df dg : FD) (w : World) (HF : FrW w f df) (HG : FrW w g dg) : Calls Try.prog 42 #[.agg (c44 f.key f.vn f.vw f.val), .agg (c44 g.key g.vn g.vw g.val)] w fun e w' => e = .returned (.bool (itemB f g df dg)) ∧ Gro w w' := by
  refine jp Try.func42 rfl Try.ntmps42 [.agg (c44 f.key f.vn f.vw f.val), .agg (c44 g.key g.vn g.vw g.val)] ?_
  intro U h; simp only [List.length_cons, List.length_nil, List.cons_append, List.nil_append, Nat.reduceAdd, Nat.reduceSub, List.reduceReplicate] at h; subst h
  have GG := Gro.refl w
  have lfv := jX HF.val
  have lgv := jX HG.val
  have lft := jX HF.tr
  have lgt := jX HG.tr
  have lfx := jX HF.tx
  have lgx := jX HG.tx
  refine wp_seq (wp_region_lit ?_)
  refine jB 2 rfl rfl 44 _ rfl _ rfl (c44 f.key f.vn f.vw f.val) rfl ?_
  intro w1 g1 G eg1 kg1
  have bg1 := jm GG eg1
  replace GG := GG.trans G
  clear G eg1
  refine jB 3 rfl rfl 44 _ rfl _ rfl (c44 g.key g.vn g.vw g.val) rfl ?_
  intro w2 g2 G eg2 kg2
  have bg2 := jm GG eg2
  have dg1g2 := je kg1 eg2
  replace kg1 := G.has kg1
  replace GG := GG.trans G
  clear G eg2
  refine mv 4 (vFa) ?_
  refine nr ?_; intro U h; simp only [z0, z1] at h; subst h
  refine wpList_nil (jc (wp_seq ?_))
  refine jt ?_
  intro OPS hY
  have y5 := hY 5 10 rfl
  have y12 := hY 12 17 rfl
  clear hY
  refine sv 5 (pK g1 0) (jd 44 _ 0 rfl _ _ rfl _) (sv 6 (.agg (c23 f.key)) (jf 23 _ rfl g1 0 16 rfl 44 _ kg1 _ Try.underlying23 rfl si23 _) (sv 7 (pK g2 0) (jd 44 _ 0 rfl _ _ rfl _) ?_))
  refine nr ?_; intro U h; simp only [z0, z1] at h; subst h
  refine sv 8 (.agg (c23 g.key)) (jf 23 _ rfl g2 0 16 rfl 44 _ kg2 _ Try.underlying23 rfl si23 _) ?_
  refine nr ?_; intro U h; simp only [z0, z1] at h; subst h
  obtain ⟨p1, hp1⟩ : ∃ p, decide (idL f.key = idL g.key) = p := ⟨_, rfl⟩
  refine sv 9 (.bool p1) (zv .eql 23 _ _ _ rfl _ _ rfl rfl (by kernel_rfl) _ ((eq23 f.key g.key _).trans (by rw [hp1]))) ?_
  refine nr ?_; intro U h; simp only [z0, z1] at h; subst h
  cases p1
  refine jx _ rfl rfl (vFa) rfl ?_
  refine nr ?_; intro U h; simp only [z0, z1] at h; subst h
  iterate 5 (refine jv _ rfl rfl y5 rfl ?_; refine nr ?_; intro U h; simp only [z0, z1] at h; subst h)
  refine jx _ rfl rfl (vFa) rfl ?_
  refine jx _ rfl rfl (vFa) rfl ?_
  refine nr ?_; intro U h; simp only [z0, z1] at h; subst h
  iterate 7 (refine jv _ rfl rfl y12 rfl ?_; refine nr ?_; intro U h; simp only [z0, z1] at h; subst h)
  refine jx _ rfl rfl (vFa) rfl ?_
  refine jx _ rfl rfl (vFa) rfl ?_
  refine wpList_nil (jc (wp_ret ?_))
  refine bodyPost_ret (results_tmp Try.results42 _ _ _) rfl ?_
  have hb9 : false = itemB f g df dg := by simp only [itemB, hp1, Bool.false_and]
  exact ⟨congrArg (fun b => Ending.returned (.bool b)) hb9, GG⟩
  refine mv 10 (vTr) ?_
  refine nr ?_; intro U h; simp only [z0, z1] at h; subst h
  refine ji 11 rfl rfl y5 rfl (pK g1 16) (jd 44 _ 1 rfl _ _ rfl _) (ji 12 rfl rfl y5 rfl (.agg (c42 f.vn f.vw)) (jf 42 _ rfl g1 16 17 rfl 44 _ kg1 _ Try.underlying42 rfl si42 _) (ji 13 rfl rfl y5 rfl (pK g2 16) (jd 44 _ 1 rfl _ _ rfl _) ?_))
  refine nr ?_; intro U h; simp only [z0, z1] at h; subst h
  refine ji 14 rfl rfl y5 rfl (.agg (c42 g.vn g.vw)) (jf 42 _ rfl g2 16 17 rfl 44 _ kg2 _ Try.underlying42 rfl si42 _) ?_
  refine nr ?_; intro U h; simp only [z0, z1] at h; subst h
  obtain ⟨p2, hp2⟩ : ∃ p, (decide (f.vn = g.vn) && decide (idL f.vw = idL g.vw)) = p := ⟨_, rfl⟩
  refine ji 15 rfl rfl y5 rfl (.bool p2) (zv .eql 42 _ _ _ rfl _ _ rfl rfl (by kernel_rfl) _ ((eq31 f.vn g.vn f.vw g.vw _).trans (by rw [hp2]))) ?_
  refine nr ?_; intro U h; simp only [z0, z1] at h; subst h
  cases p2
  refine jx _ rfl rfl (vFa) rfl ?_
  refine jx _ rfl rfl (vFa) rfl ?_
  refine nr ?_; intro U h; simp only [z0, z1] at h; subst h
  iterate 7 (refine jv _ rfl rfl y12 rfl ?_; refine nr ?_; intro U h; simp only [z0, z1] at h; subst h)
  refine jx _ rfl rfl (vFa) rfl ?_
  refine jx _ rfl rfl (vFa) rfl ?_
  refine wpList_nil (jc (wp_ret ?_))
  refine bodyPost_ret (results_tmp Try.results42 _ _ _) rfl ?_
  have hb9 : false = itemB f g df dg := by simp only [itemB, hp1, hp2, Bool.and_false, Bool.false_and]
  exact ⟨congrArg (fun b => Ending.returned (.bool b)) hb9, GG⟩
  refine mv 16 (vTr) ?_
  refine nr ?_; intro U h; simp only [z0, z1] at h; subst h
  refine mv 17 (vTr) (ji 18 rfl rfl y12 rfl (pK g1 33) (jd 44 _ 2 rfl _ _ rfl _) (ji 19 rfl rfl y12 rfl (.slice f.val.ao f.val.n f.val.cap) (jh 36 _ rfl g1 33 rfl 44 _ kg1 (na36 _) _ rfl) ?_))
  refine nr ?_; intro U h; simp only [z0, z1] at h; subst h
  refine ji 20 rfl rfl y12 rfl (.string (bas df.val)) (zw bT 9 Try.underlying9 _ rfl (l := df.val) (by rw [← lfv]; rfl) (vU (HF.gro GG).val HF.oval)) (ji 21 rfl rfl y12 rfl (pK g2 33) (jd 44 _ 2 rfl _ _ rfl _) (ji 22 rfl rfl y12 rfl (.slice g.val.ao g.val.n g.val.cap) (jh 36 _ rfl g2 33 rfl 44 _ kg2 (na36 _) _ rfl) ?_))
  refine nr ?_; intro U h; simp only [z0, z1] at h; subst h
  refine ji 23 rfl rfl y12 rfl (.string (bas dg.val)) (zw bT 9 Try.underlying9 _ rfl (l := dg.val) (by rw [← lgv]; rfl) (vU (HG.gro GG).val HG.oval)) ?_
  refine nr ?_; intro U h; simp only [z0, z1] at h; subst h
  obtain ⟨p3, hp3⟩ : ∃ p, decide (df.val = dg.val) = p := ⟨_, rfl⟩
  refine ji 24 rfl rfl y12 rfl (.bool p3) (vE _ _ _ rfl _ _ rfl rfl p3 ((Zo HF.oval HG.oval).trans hp3) _) ?_
  refine nr ?_; intro U h; simp only [z0, z1] at h; subst h
  cases p3
  refine jx _ rfl rfl (vFa) rfl ?_
  refine jx _ rfl rfl (vFa) rfl ?_
  refine wpList_nil (jc (wp_ret ?_))
  refine bodyPost_ret (results_tmp Try.results42 _ _ _) rfl ?_
  have hb9 : false = itemB f g df dg := by simp only [itemB, hp1, hp2, hp3, Bool.and_false]
  exact ⟨congrArg (fun b => Ending.returned (.bool b)) hb9, GG⟩
  refine mv 25 (vTr) ?_
  refine nr ?_; intro U h; simp only [z0, z1] at h; subst h
  refine mv 4 (vTr) (wpList_nil (jc (wp_ret ?_)))
  refine bodyPost_ret (results_tmp Try.results42 _ _ _) rfl ?_
  have hb9 : true = itemB f g df dg := by simp only [itemB, hp1, hp2, hp3, Bool.and_true]
  exact ⟨congrArg (fun b => Ending.returned (.bool b)) hb9, GG⟩
theorem same_d (f g : Fr) (df dg : FD) (w : World) (HF : FrW w f df) (HG : FrW w g dg) (hl : Lens df) : Calls Try.prog 18 #[.agg (c46 f.kind f.pw f.pn f.toA f.a f.b f.n f.fi f.fn f.ti f.tn f.tr f.ids f.key f.vn f.vw f.val f.op f.ttl f.tx), .agg (c46 g.kind g.pw g.pn g.toA g.a g.b g.n g.fi g.fn g.ti g.tn g.tr g.ids g.key g.vn g.vw g.val g.op g.ttl g.tx)] w fun e w' => e = .returned (.bool (sameK f g df dg)) ∧ Gro w w' := by
  refine jp Try.func18 rfl Try.ntmps18 [.agg (c46 f.kind f.pw f.pn f.toA f.a f.b f.n f.fi f.fn f.ti f.tn f.tr f.ids f.key f.vn f.vw f.val f.op f.ttl f.tx), .agg (c46 g.kind g.pw g.pn g.toA g.a g.b g.n g.fi g.fn g.ti g.tn g.tr g.ids g.key g.vn g.vw g.val g.op g.ttl g.tx)] ?_
  intro U h; simp only [List.length_cons, List.length_nil, List.cons_append, List.nil_append, Nat.reduceAdd, Nat.reduceSub, List.reduceReplicate] at h; subst h
  have GG := Gro.refl w
  have lfv := jX HF.val
  have lgv := jX HG.val
  have lft := jX HF.tr
  have lgt := jX HG.tr
  have lfx := jX HF.tx
  have lgx := jX HG.tx
  have HFt : XC w 1 f.tr.ao f.tr.cap df.tr.length (df.tr.map (Value.int .i64 ·)) := by rw [← lft]; exact HF.tr
  have HGt : XC w 1 g.tr.ao g.tr.cap dg.tr.length (dg.tr.map (Value.int .i64 ·)) := by rw [← lgt]; exact HG.tr
  have lfi := HF.idn
  have lgi := HG.idn
  have hl1 := hl.1
  have hl2 := hl.2
  refine wp_seq (wp_region_lit ?_)
  refine jB 2 rfl rfl 46 _ rfl _ rfl (c46 f.kind f.pw f.pn f.toA f.a f.b f.n f.fi f.fn f.ti f.tn f.tr f.ids f.key f.vn f.vw f.val f.op f.ttl f.tx) rfl ?_
  intro w1 g1 G eg1 kg1
  have bg1 := jm GG eg1
  replace GG := GG.trans G
  clear G eg1
  refine jB 3 rfl rfl 46 _ rfl _ rfl (c46 g.kind g.pw g.pn g.toA g.a g.b g.n g.fi g.fn g.ti g.tn g.tr g.ids g.key g.vn g.vw g.val g.op g.ttl g.tx) rfl ?_
  intro w2 g2 G eg2 kg2
  have bg2 := jm GG eg2
  have dg1g2 := je kg1 eg2
  replace kg1 := G.has kg1
  replace GG := GG.trans G
  clear G eg2
  refine mv 4 (vFa) ?_
  refine nr ?_; intro U h; simp only [z0, z1] at h; subst h
  refine wpList_nil (jc (wp_seq (wp_seq ?_)))
  refine jt ?_
  intro OPS hY
  have y7 := hY 7 14 rfl
  clear hY
  refine sv 7 (pK g1 56) (jd 46 _ 8 rfl _ _ rfl _) (sv 8 (.slice f.tr.ao f.tr.n f.tr.cap) (jh 39 _ rfl g1 56 rfl 46 _ kg1 (na39 _) _ rfl) (sv 9 (iK ((f.tr.n : Nat) : Int)) (jM Try.underlying39 _ rfl _ _ _ rfl _) ?_))
  refine nr ?_; intro U h; simp only [z0, z1] at h; subst h
  refine sv 10 (pK g2 56) (jd 46 _ 8 rfl _ _ rfl _) (sv 11 (.slice g.tr.ao g.tr.n g.tr.cap) (jh 39 _ rfl g2 56 rfl 46 _ kg2 (na39 _) _ rfl) (sv 12 (iK ((g.tr.n : Nat) : Int)) (jM Try.underlying39 _ rfl _ _ _ rfl _) ?_))
  refine nr ?_; intro U h; simp only [z0, z1] at h; subst h
  obtain ⟨p1, hp1⟩ : ∃ p, (!decide (((f.tr.n : Nat) : Int) = ((g.tr.n : Nat) : Int))) = p := ⟨_, rfl⟩
  refine sv 13 (.bool p1) (jP 3 .i64 _ _ _ rfl Try.underlying3 ((f.tr.n : Nat) : Int) ((g.tr.n : Nat) : Int) rfl rfl p1 (by rw [← hp1, Bool.not_not]) _) ?_
  refine nr ?_; intro U h; simp only [z0, z1] at h; subst h
  cases p1
  have hlt : f.tr.n = g.tr.n := by simp at hp1; omega
  refine jx _ rfl rfl (vFa) rfl ?_
  refine ji 15 rfl rfl y7 rfl (pK g1 57) (jd 46 _ 9 rfl _ _ rfl _) (ji 16 rfl rfl y7 rfl (.slice f.ids.ao f.ids.n f.ids.cap) (jh 40 _ rfl g1 57 rfl 46 _ kg1 (na40 _) _ rfl) ?_)
  refine nr ?_; intro U h; simp only [z0, z1] at h; subst h
  refine ji 17 rfl rfl y7 rfl (iK ((f.ids.n : Nat) : Int)) (jM Try.underlying40 _ rfl _ _ _ rfl _) (ji 18 rfl rfl y7 rfl (pK g2 57) (jd 46 _ 9 rfl _ _ rfl _) (ji 19 rfl rfl y7 rfl (.slice g.ids.ao g.ids.n g.ids.cap) (jh 40 _ rfl g2 57 rfl 46 _ kg2 (na40 _) _ rfl) ?_))
  refine nr ?_; intro U h; simp only [z0, z1] at h; subst h
  refine ji 20 rfl rfl y7 rfl (iK ((g.ids.n : Nat) : Int)) (jM Try.underlying40 _ rfl _ _ _ rfl _) ?_
  refine nr ?_; intro U h; simp only [z0, z1] at h; subst h
  obtain ⟨p2, hp2⟩ : ∃ p, (!decide (((f.ids.n : Nat) : Int) = ((g.ids.n : Nat) : Int))) = p := ⟨_, rfl⟩
  refine ji 21 rfl rfl y7 rfl (.bool p2) (jP 3 .i64 _ _ _ rfl Try.underlying3 ((f.ids.n : Nat) : Int) ((g.ids.n : Nat) : Int) rfl rfl p2 (by rw [← hp2, Bool.not_not]) _) ?_
  refine nr ?_; intro U h; simp only [z0, z1] at h; subst h
  cases p2
  have hli : f.ids.n = g.ids.n := by simp at hp2; omega
  refine jx _ rfl rfl (vFa) rfl ?_
  refine wpList_nil (jc (wp_cond_false rfl (wp_skip (jc (wp_seq (wp_seq (wp_region_lit (mv 5 (iK 0) (wpList_nil (jc (wp_block ?_)))))))))))
  refine zB (fun mz az wv => ∃ (j : Nat) (us1 : Nat → Value), mz = df.tr.length - j ∧ az = ⟨[.agg (c46 f.kind f.pw f.pn f.toA f.a f.b f.n f.fi f.fn f.ti f.tn f.tr f.ids f.key f.vn f.vw f.val f.op f.ttl f.tx), .agg (c46 g.kind g.pw g.pn g.toA g.a g.b g.n g.fi g.fn g.ti g.tn g.tr g.ids g.key g.vn g.vw g.val g.op g.ttl g.tx), pK g1 0, pK g2 0, us1 0, iK ((j : Nat) : Int), undef, pK g1 56, .slice f.tr.ao f.tr.n f.tr.cap, iK ((f.tr.n : Nat) : Int), pK g2 56, .slice g.tr.ao g.tr.n g.tr.cap, iK ((g.tr.n : Nat) : Int), vFa, vFa, pK g1 57, .slice f.ids.ao f.ids.n f.ids.cap, iK ((f.ids.n : Nat) : Int), pK g2 57, .slice g.ids.ao g.ids.n g.ids.cap, iK ((g.ids.n : Nat) : Int), vFa, vFa, us1 1, us1 2, us1 3, us1 4, us1 5, us1 6, us1 7, us1 8, us1 9, us1 10, us1 11, us1 12, us1 13, us1 14, us1 15, us1 16, us1 17, us1 18, undef, undef, undef, undef, undef, undef, undef, undef, undef, undef, undef, undef, undef, undef, undef, undef, undef, undef, undef, undef, undef, undef, undef, undef, undef, undef, undef, undef, undef, undef, undef, undef, undef, undef, undef, undef, undef, undef, undef, undef, undef, undef, undef, undef, undef, undef, undef, undef, undef, undef, undef, undef, undef, undef, undef, undef, undef, undef, undef, undef, undef, undef, undef, undef, undef, undef, undef, undef, undef, undef, undef, undef, undef, undef, undef, undef, undef, undef, undef, undef, undef, undef, undef, undef, undef, undef, undef, undef, undef, undef, undef, undef, undef, undef, undef, undef, undef, undef, undef, undef, undef, undef].toArray, []⟩ ∧ j ≤ df.tr.length ∧ df.tr.take j = dg.tr.take j ∧ Gro w wv ∧ wv.heap[g1]? = some (.cells (c46 f.kind f.pw f.pn f.toA f.a f.b f.n f.fi f.fn f.ti f.tn f.tr f.ids f.key f.vn f.vw f.val f.op f.ttl f.tx) 46 (0, 0)) ∧ wv.heap[g2]? = some (.cells (c46 g.kind g.pw g.pn g.toA g.a g.b g.n g.fi g.fn g.ti g.tn g.tr g.ids g.key g.vn g.vw g.val g.op g.ttl g.tx) 46 (0, 0))) ?_ _ ⟨0, usB [4, 23, 24, 25, 26, 27, 28, 29, 30, 31, 32, 33, 34, 35, 36, 37, 38, 39, 40] rfl rfl ⟨Nat.zero_le _, rfl, GG, kg1, kg2⟩⟩
  clear kg1 kg2 GG
  rintro mz az wv ⟨j, us1, rfl, rfl, hj, ht, GG, kg1, kg2⟩
  refine wp_seq (wp_seq (wp_region_lit (mv 23 (iK ((j : Nat) : Int)) ?_)))
  refine nr ?_; intro U h; simp only [z0, z1] at h; subst h
  refine sv 24 (pK g1 56) (jd 46 _ 8 rfl _ _ rfl _) (sv 25 (.slice f.tr.ao f.tr.n f.tr.cap) (jh 39 _ rfl g1 56 rfl 46 _ kg1 (na39 _) _ rfl) (sv 26 (iK ((f.tr.n : Nat) : Int)) (jM Try.underlying39 _ rfl _ _ _ rfl _) ?_))
  refine nr ?_; intro U h; simp only [z0, z1] at h; subst h
  obtain ⟨p3, hp3⟩ : ∃ p, decide (((j : Nat) : Int) < ((f.tr.n : Nat) : Int)) = p := ⟨_, rfl⟩
  refine sv 27 (.bool p3) (jQ 3 _ _ _ rfl ((j : Nat) : Int) ((f.tr.n : Nat) : Int) rfl rfl p3 hp3 _) ?_
  refine nr ?_; intro U h; simp only [z0, z1] at h; subst h
  cases p3
  have htt : df.tr = dg.tr := by have := of_decide_eq_false hp3; rwa [List.take_of_length_le (by omega), List.take_of_length_le (by omega)] at ht
  refine wpList_nil (jc (wp_cond_false rfl (wp_exit (zi (zi (yl (jc (wp_seq (wp_seq (wp_region_lit (mv 6 (iK 0) (wpList_nil (jc (wp_block ?_))))))))))))))
  refine zB (fun mz az wv => ∃ (i : Nat) (us2 : Nat → Value), mz = df.ids.length - i ∧ az = ⟨[.agg (c46 f.kind f.pw f.pn f.toA f.a f.b f.n f.fi f.fn f.ti f.tn f.tr f.ids f.key f.vn f.vw f.val f.op f.ttl f.tx), .agg (c46 g.kind g.pw g.pn g.toA g.a g.b g.n g.fi g.fn g.ti g.tn g.tr g.ids g.key g.vn g.vw g.val g.op g.ttl g.tx), pK g1 0, pK g2 0, us2 0, iK ((j : Nat) : Int), iK ((i : Nat) : Int), pK g1 56, .slice f.tr.ao f.tr.n f.tr.cap, iK ((f.tr.n : Nat) : Int), pK g2 56, .slice g.tr.ao g.tr.n g.tr.cap, iK ((g.tr.n : Nat) : Int), vFa, vFa, pK g1 57, .slice f.ids.ao f.ids.n f.ids.cap, iK ((f.ids.n : Nat) : Int), pK g2 57, .slice g.ids.ao g.ids.n g.ids.cap, iK ((g.ids.n : Nat) : Int), vFa, vFa, iK ((j : Nat) : Int), pK g1 56, .slice f.tr.ao f.tr.n f.tr.cap, iK ((f.tr.n : Nat) : Int), vFa, us1 6, us1 7, us1 8, us1 9, us1 10, us1 11, us1 12, us1 13, us1 14, us1 15, us1 16, us1 17, us1 18, us2 1, us2 2, us2 3, us2 4, us2 5, us2 6, us2 7, us2 8, us2 9, us2 10, us2 11, us2 12, us2 13, us2 14, us2 15, us2 16, us2 17, us2 18, undef, undef, undef, undef, undef, undef, undef, undef, undef, undef, undef, undef, undef, undef, undef, undef, undef, undef, undef, undef, undef, undef, undef, undef, undef, undef, undef, undef, undef, undef, undef, undef, undef, undef, undef, undef, undef, undef, undef, undef, undef, undef, undef, undef, undef, undef, undef, undef, undef, undef, undef, undef, undef, undef, undef, undef, undef, undef, undef, undef, undef, undef, undef, undef, undef, undef, undef, undef, undef, undef, undef, undef, undef, undef, undef, undef, undef, undef, undef, undef, undef, undef, undef, undef].toArray, []⟩ ∧ i ≤ df.ids.length ∧ df.ids.take i = dg.ids.take i ∧ Gro w wv ∧ wv.heap[g1]? = some (.cells (c46 f.kind f.pw f.pn f.toA f.a f.b f.n f.fi f.fn f.ti f.tn f.tr f.ids f.key f.vn f.vw f.val f.op f.ttl f.tx) 46 (0, 0)) ∧ wv.heap[g2]? = some (.cells (c46 g.kind g.pw g.pn g.toA g.a g.b g.n g.fi g.fn g.ti g.tn g.tr g.ids g.key g.vn g.vw g.val g.op g.ttl g.tx) 46 (0, 0))) ?_ _ ⟨0, usB [4, 41, 42, 43, 44, 45, 46, 47, 48, 49, 50, 51, 52, 53, 54, 55, 56, 57, 58] rfl rfl ⟨Nat.zero_le _, rfl, GG, kg1, kg2⟩⟩
  clear kg1 kg2 GG
  rintro mz az wv ⟨i, us2, rfl, rfl, hi, hu, GG, kg1, kg2⟩
  refine wp_seq (wp_seq (wp_region_lit (mv 41 (iK ((i : Nat) : Int)) (sv 42 (pK g1 57) (jd 46 _ 9 rfl _ _ rfl _) ?_))))
  refine nr ?_; intro U h; simp only [z0, z1] at h; subst h
  refine sv 43 (.slice f.ids.ao f.ids.n f.ids.cap) (jh 40 _ rfl g1 57 rfl 46 _ kg1 (na40 _) _ rfl) (sv 44 (iK ((f.ids.n : Nat) : Int)) (jM Try.underlying40 _ rfl _ _ _ rfl _) ?_)
  refine nr ?_; intro U h; simp only [z0, z1] at h; subst h
  obtain ⟨p4, hp4⟩ : ∃ p, decide (((i : Nat) : Int) < ((f.ids.n : Nat) : Int)) = p := ⟨_, rfl⟩
  refine sv 45 (.bool p4) (jQ 3 _ _ _ rfl ((i : Nat) : Int) ((f.ids.n : Nat) : Int) rfl rfl p4 hp4 _) ?_
  refine nr ?_; intro U h; simp only [z0, z1] at h; subst h
  cases p4
  have huu : df.ids = dg.ids := by have := of_decide_eq_false hp4; rwa [List.take_of_length_le (by omega), List.take_of_length_le (by omega)] at hu
  refine wpList_nil (jc (wp_cond_false rfl (wp_exit (zi (zi (yl (jc (wp_seq ?_))))))))
  refine jt ?_
  simp only [List.append]
  intro OPS hY
  have y5 := hY 5 64 rfl
  have y12 := hY 12 71 rfl
  have y19 := hY 19 78 rfl
  have y26 := hY 26 85 rfl
  have y33 := hY 33 92 rfl
  have y40 := hY 40 99 rfl
  have y47 := hY 47 106 rfl
  have y54 := hY 54 113 rfl
  have y61 := hY 61 120 rfl
  have y68 := hY 68 127 rfl
  have y75 := hY 75 134 rfl
  clear hY
  refine sv 59 (pK g1 0) (jd 46 _ 0 rfl _ _ rfl _) (sv 60 (iK f.kind) (jh 3 _ rfl g1 0 rfl 46 _ kg1 (na3 _) _ rfl) (sv 61 (pK g2 0) (jd 46 _ 0 rfl _ _ rfl _) ?_))
  refine nr ?_; intro U h; simp only [z0, z1] at h; subst h
  refine sv 62 (iK g.kind) (jh 3 _ rfl g2 0 rfl 46 _ kg2 (na3 _) _ rfl) ?_
  refine nr ?_; intro U h; simp only [z0, z1] at h; subst h
  obtain ⟨p5, hp5⟩ : ∃ p, decide (f.kind = g.kind) = p := ⟨_, rfl⟩
  refine sv 63 (.bool p5) (jo 3 .i64 _ _ _ rfl Try.underlying3 f.kind g.kind rfl rfl p5 hp5 _) ?_
  refine nr ?_; intro U h; simp only [z0, z1] at h; subst h
  cases p5
  refine jx _ rfl rfl (vFa) rfl ?_
  refine nr ?_; intro U h; simp only [z0, z1] at h; subst h
  iterate 5 (refine jv _ rfl rfl y5 rfl ?_; refine nr ?_; intro U h; simp only [z0, z1] at h; subst h)
  refine jx _ rfl rfl (vFa) rfl ?_
  refine jx _ rfl rfl (vFa) rfl ?_
  refine nr ?_; intro U h; simp only [z0, z1] at h; subst h
  iterate 5 (refine jv _ rfl rfl y12 rfl ?_; refine nr ?_; intro U h; simp only [z0, z1] at h; subst h)
  refine jx _ rfl rfl (vFa) rfl ?_
  refine jx _ rfl rfl (vFa) rfl ?_
  refine nr ?_; intro U h; simp only [z0, z1] at h; subst h
  iterate 5 (refine jv _ rfl rfl y19 rfl ?_; refine nr ?_; intro U h; simp only [z0, z1] at h; subst h)
  refine jx _ rfl rfl (vFa) rfl ?_
  refine jx _ rfl rfl (vFa) rfl ?_
  refine nr ?_; intro U h; simp only [z0, z1] at h; subst h
  iterate 5 (refine jv _ rfl rfl y26 rfl ?_; refine nr ?_; intro U h; simp only [z0, z1] at h; subst h)
  refine jx _ rfl rfl (vFa) rfl ?_
  refine jx _ rfl rfl (vFa) rfl ?_
  refine nr ?_; intro U h; simp only [z0, z1] at h; subst h
  iterate 5 (refine jv _ rfl rfl y33 rfl ?_; refine nr ?_; intro U h; simp only [z0, z1] at h; subst h)
  refine jx _ rfl rfl (vFa) rfl ?_
  refine jx _ rfl rfl (vFa) rfl ?_
  refine nr ?_; intro U h; simp only [z0, z1] at h; subst h
  iterate 5 (refine jv _ rfl rfl y40 rfl ?_; refine nr ?_; intro U h; simp only [z0, z1] at h; subst h)
  refine jx _ rfl rfl (vFa) rfl ?_
  refine jx _ rfl rfl (vFa) rfl ?_
  refine nr ?_; intro U h; simp only [z0, z1] at h; subst h
  iterate 5 (refine jv _ rfl rfl y47 rfl ?_; refine nr ?_; intro U h; simp only [z0, z1] at h; subst h)
  refine jx _ rfl rfl (vFa) rfl ?_
  refine jx _ rfl rfl (vFa) rfl ?_
  refine nr ?_; intro U h; simp only [z0, z1] at h; subst h
  iterate 5 (refine jv _ rfl rfl y54 rfl ?_; refine nr ?_; intro U h; simp only [z0, z1] at h; subst h)
  refine jx _ rfl rfl (vFa) rfl ?_
  refine jx _ rfl rfl (vFa) rfl ?_
  refine nr ?_; intro U h; simp only [z0, z1] at h; subst h
  iterate 5 (refine jv _ rfl rfl y61 rfl ?_; refine nr ?_; intro U h; simp only [z0, z1] at h; subst h)
  refine jx _ rfl rfl (vFa) rfl ?_
  refine jx _ rfl rfl (vFa) rfl ?_
  refine nr ?_; intro U h; simp only [z0, z1] at h; subst h
  iterate 5 (refine jv _ rfl rfl y68 rfl ?_; refine nr ?_; intro U h; simp only [z0, z1] at h; subst h)
  refine jx _ rfl rfl (vFa) rfl ?_
  refine jx _ rfl rfl (vFa) rfl ?_
  refine nr ?_; intro U h; simp only [z0, z1] at h; subst h
  iterate 7 (refine jv _ rfl rfl y75 rfl ?_; refine nr ?_; intro U h; simp only [z0, z1] at h; subst h)
  refine jx _ rfl rfl (vFa) rfl ?_
  refine jx _ rfl rfl (vFa) rfl ?_
  refine wpList_nil (jc (wp_ret ?_))
  refine bodyPost_ret (results_tmp Try.results18 _ _ _) rfl ?_
  first | exact ⟨congrArg (fun b => Ending.returned (.bool b)) (ze hne), GG⟩ | exact ⟨congrArg (fun b => Ending.returned (.bool b)) (jY hne), GG⟩ | exact ⟨by simp only [sameK, sameB] at *; simp [*], GG⟩
  refine mv 64 (vTr) ?_
  refine nr ?_; intro U h; simp only [z0, z1] at h; subst h
  refine ji 65 rfl rfl y5 rfl (pK g1 1) (jd 46 _ 1 rfl _ _ rfl _) (ji 66 rfl rfl y5 rfl (.agg (c38 f.pw f.pn)) (jf 38 _ rfl g1 1 17 rfl 46 _ kg1 _ Try.underlying38 rfl si38 _) (ji 67 rfl rfl y5 rfl (pK g2 1) (jd 46 _ 1 rfl _ _ rfl _) ?_))
  refine nr ?_; intro U h; simp only [z0, z1] at h; subst h
  refine ji 68 rfl rfl y5 rfl (.agg (c38 g.pw g.pn)) (jf 38 _ rfl g2 1 17 rfl 46 _ kg2 _ Try.underlying38 rfl si38 _) ?_
  refine nr ?_; intro U h; simp only [z0, z1] at h; subst h
  obtain ⟨p6, hp6⟩ : ∃ p, (decide (idL f.pw = idL g.pw) && decide (f.pn = g.pn)) = p := ⟨_, rfl⟩
  refine ji 69 rfl rfl y5 rfl (.bool p6) (zv .eql 38 _ _ _ rfl _ _ rfl rfl (by kernel_rfl) _ ((eq25 f.pw g.pw f.pn g.pn _).trans (by rw [hp6]))) ?_
  refine nr ?_; intro U h; simp only [z0, z1] at h; subst h
  cases p6
  refine jx _ rfl rfl (vFa) rfl ?_
  refine jx _ rfl rfl (vFa) rfl ?_
  refine nr ?_; intro U h; simp only [z0, z1] at h; subst h
  iterate 5 (refine jv _ rfl rfl y12 rfl ?_; refine nr ?_; intro U h; simp only [z0, z1] at h; subst h)
  refine jx _ rfl rfl (vFa) rfl ?_
  refine jx _ rfl rfl (vFa) rfl ?_
  refine nr ?_; intro U h; simp only [z0, z1] at h; subst h
  iterate 5 (refine jv _ rfl rfl y19 rfl ?_; refine nr ?_; intro U h; simp only [z0, z1] at h; subst h)
  refine jx _ rfl rfl (vFa) rfl ?_
  refine jx _ rfl rfl (vFa) rfl ?_
  refine nr ?_; intro U h; simp only [z0, z1] at h; subst h
  iterate 5 (refine jv _ rfl rfl y26 rfl ?_; refine nr ?_; intro U h; simp only [z0, z1] at h; subst h)
  refine jx _ rfl rfl (vFa) rfl ?_
  refine jx _ rfl rfl (vFa) rfl ?_
  refine nr ?_; intro U h; simp only [z0, z1] at h; subst h
  iterate 5 (refine jv _ rfl rfl y33 rfl ?_; refine nr ?_; intro U h; simp only [z0, z1] at h; subst h)
  refine jx _ rfl rfl (vFa) rfl ?_
  refine jx _ rfl rfl (vFa) rfl ?_
  refine nr ?_; intro U h; simp only [z0, z1] at h; subst h
  iterate 5 (refine jv _ rfl rfl y40 rfl ?_; refine nr ?_; intro U h; simp only [z0, z1] at h; subst h)
  refine jx _ rfl rfl (vFa) rfl ?_
  refine jx _ rfl rfl (vFa) rfl ?_
  refine nr ?_; intro U h; simp only [z0, z1] at h; subst h
  iterate 5 (refine jv _ rfl rfl y47 rfl ?_; refine nr ?_; intro U h; simp only [z0, z1] at h; subst h)
  refine jx _ rfl rfl (vFa) rfl ?_
  refine jx _ rfl rfl (vFa) rfl ?_
  refine nr ?_; intro U h; simp only [z0, z1] at h; subst h
  iterate 5 (refine jv _ rfl rfl y54 rfl ?_; refine nr ?_; intro U h; simp only [z0, z1] at h; subst h)
  refine jx _ rfl rfl (vFa) rfl ?_
  refine jx _ rfl rfl (vFa) rfl ?_
  refine nr ?_; intro U h; simp only [z0, z1] at h; subst h
  iterate 5 (refine jv _ rfl rfl y61 rfl ?_; refine nr ?_; intro U h; simp only [z0, z1] at h; subst h)
  refine jx _ rfl rfl (vFa) rfl ?_
  refine jx _ rfl rfl (vFa) rfl ?_
  refine nr ?_; intro U h; simp only [z0, z1] at h; subst h
  iterate 5 (refine jv _ rfl rfl y68 rfl ?_; refine nr ?_; intro U h; simp only [z0, z1] at h; subst h)
  refine jx _ rfl rfl (vFa) rfl ?_
  refine jx _ rfl rfl (vFa) rfl ?_
  refine nr ?_; intro U h; simp only [z0, z1] at h; subst h
  iterate 7 (refine jv _ rfl rfl y75 rfl ?_; refine nr ?_; intro U h; simp only [z0, z1] at h; subst h)
  refine jx _ rfl rfl (vFa) rfl ?_
  refine jx _ rfl rfl (vFa) rfl ?_
  refine wpList_nil (jc (wp_ret ?_))
  refine bodyPost_ret (results_tmp Try.results18 _ _ _) rfl ?_
  first | exact ⟨congrArg (fun b => Ending.returned (.bool b)) (ze hne), GG⟩ | exact ⟨congrArg (fun b => Ending.returned (.bool b)) (jY hne), GG⟩ | exact ⟨by simp only [sameK, sameB] at *; simp [*], GG⟩
  refine mv 70 (vTr) ?_
  refine nr ?_; intro U h; simp only [z0, z1] at h; subst h
  refine mv 71 (vTr) (ji 72 rfl rfl y12 rfl (pK g1 18) (jd 46 _ 2 rfl _ _ rfl _) (ji 73 rfl rfl y12 rfl (.bool f.toA) (jh 4 _ rfl g1 18 rfl 46 _ kg1 (na4 _) _ rfl) ?_))
  refine nr ?_; intro U h; simp only [z0, z1] at h; subst h
  refine ji 74 rfl rfl y12 rfl (pK g2 18) (jd 46 _ 2 rfl _ _ rfl _) (ji 75 rfl rfl y12 rfl (.bool g.toA) (jh 4 _ rfl g2 18 rfl 46 _ kg2 (na4 _) _ rfl) ?_)
  refine nr ?_; intro U h; simp only [z0, z1] at h; subst h
  obtain ⟨p7, hp7⟩ : ∃ p, decide (f.toA = g.toA) = p := ⟨_, rfl⟩
  refine ji 76 rfl rfl y12 rfl (.bool p7) (run_eqB 4 _ _ _ rfl f.toA g.toA rfl rfl Try.underlying4 p7 hp7 _) ?_
  refine nr ?_; intro U h; simp only [z0, z1] at h; subst h
  cases p7
  refine jx _ rfl rfl (vFa) rfl ?_
  refine jx _ rfl rfl (vFa) rfl ?_
  refine nr ?_; intro U h; simp only [z0, z1] at h; subst h
  iterate 5 (refine jv _ rfl rfl y19 rfl ?_; refine nr ?_; intro U h; simp only [z0, z1] at h; subst h)
  refine jx _ rfl rfl (vFa) rfl ?_
  refine jx _ rfl rfl (vFa) rfl ?_
  refine nr ?_; intro U h; simp only [z0, z1] at h; subst h
  iterate 5 (refine jv _ rfl rfl y26 rfl ?_; refine nr ?_; intro U h; simp only [z0, z1] at h; subst h)
  refine jx _ rfl rfl (vFa) rfl ?_
  refine jx _ rfl rfl (vFa) rfl ?_
  refine nr ?_; intro U h; simp only [z0, z1] at h; subst h
  iterate 5 (refine jv _ rfl rfl y33 rfl ?_; refine nr ?_; intro U h; simp only [z0, z1] at h; subst h)
  refine jx _ rfl rfl (vFa) rfl ?_
  refine jx _ rfl rfl (vFa) rfl ?_
  refine nr ?_; intro U h; simp only [z0, z1] at h; subst h
  iterate 5 (refine jv _ rfl rfl y40 rfl ?_; refine nr ?_; intro U h; simp only [z0, z1] at h; subst h)
  refine jx _ rfl rfl (vFa) rfl ?_
  refine jx _ rfl rfl (vFa) rfl ?_
  refine nr ?_; intro U h; simp only [z0, z1] at h; subst h
  iterate 5 (refine jv _ rfl rfl y47 rfl ?_; refine nr ?_; intro U h; simp only [z0, z1] at h; subst h)
  refine jx _ rfl rfl (vFa) rfl ?_
  refine jx _ rfl rfl (vFa) rfl ?_
  refine nr ?_; intro U h; simp only [z0, z1] at h; subst h
  iterate 5 (refine jv _ rfl rfl y54 rfl ?_; refine nr ?_; intro U h; simp only [z0, z1] at h; subst h)
  refine jx _ rfl rfl (vFa) rfl ?_
  refine jx _ rfl rfl (vFa) rfl ?_
  refine nr ?_; intro U h; simp only [z0, z1] at h; subst h
  iterate 5 (refine jv _ rfl rfl y61 rfl ?_; refine nr ?_; intro U h; simp only [z0, z1] at h; subst h)
  refine jx _ rfl rfl (vFa) rfl ?_
  refine jx _ rfl rfl (vFa) rfl ?_
  refine nr ?_; intro U h; simp only [z0, z1] at h; subst h
  iterate 5 (refine jv _ rfl rfl y68 rfl ?_; refine nr ?_; intro U h; simp only [z0, z1] at h; subst h)
  refine jx _ rfl rfl (vFa) rfl ?_
  refine jx _ rfl rfl (vFa) rfl ?_
  refine nr ?_; intro U h; simp only [z0, z1] at h; subst h
  iterate 7 (refine jv _ rfl rfl y75 rfl ?_; refine nr ?_; intro U h; simp only [z0, z1] at h; subst h)
  refine jx _ rfl rfl (vFa) rfl ?_
  refine jx _ rfl rfl (vFa) rfl ?_
  refine wpList_nil (jc (wp_ret ?_))
  refine bodyPost_ret (results_tmp Try.results18 _ _ _) rfl ?_
  first | exact ⟨congrArg (fun b => Ending.returned (.bool b)) (ze hne), GG⟩ | exact ⟨congrArg (fun b => Ending.returned (.bool b)) (jY hne), GG⟩ | exact ⟨by simp only [sameK, sameB] at *; simp [*], GG⟩
  refine mv 77 (vTr) ?_
  refine nr ?_; intro U h; simp only [z0, z1] at h; subst h
  refine mv 78 (vTr) (ji 79 rfl rfl y19 rfl (pK g1 19) (jd 46 _ 3 rfl _ _ rfl _) (ji 80 rfl rfl y19 rfl (.agg (c23 f.a)) (jf 23 _ rfl g1 19 16 rfl 46 _ kg1 _ Try.underlying23 rfl si23 _) ?_))
  refine nr ?_; intro U h; simp only [z0, z1] at h; subst h
  refine ji 81 rfl rfl y19 rfl (pK g2 19) (jd 46 _ 3 rfl _ _ rfl _) (ji 82 rfl rfl y19 rfl (.agg (c23 g.a)) (jf 23 _ rfl g2 19 16 rfl 46 _ kg2 _ Try.underlying23 rfl si23 _) ?_)
  refine nr ?_; intro U h; simp only [z0, z1] at h; subst h
  obtain ⟨p8, hp8⟩ : ∃ p, decide (idL f.a = idL g.a) = p := ⟨_, rfl⟩
  refine ji 83 rfl rfl y19 rfl (.bool p8) (zv .eql 23 _ _ _ rfl _ _ rfl rfl (by kernel_rfl) _ ((eq23 f.a g.a _).trans (by rw [hp8]))) ?_
  refine nr ?_; intro U h; simp only [z0, z1] at h; subst h
  cases p8
  refine jx _ rfl rfl (vFa) rfl ?_
  refine jx _ rfl rfl (vFa) rfl ?_
  refine nr ?_; intro U h; simp only [z0, z1] at h; subst h
  iterate 5 (refine jv _ rfl rfl y26 rfl ?_; refine nr ?_; intro U h; simp only [z0, z1] at h; subst h)
  refine jx _ rfl rfl (vFa) rfl ?_
  refine jx _ rfl rfl (vFa) rfl ?_
  refine nr ?_; intro U h; simp only [z0, z1] at h; subst h
  iterate 5 (refine jv _ rfl rfl y33 rfl ?_; refine nr ?_; intro U h; simp only [z0, z1] at h; subst h)
  refine jx _ rfl rfl (vFa) rfl ?_
  refine jx _ rfl rfl (vFa) rfl ?_
  refine nr ?_; intro U h; simp only [z0, z1] at h; subst h
  iterate 5 (refine jv _ rfl rfl y40 rfl ?_; refine nr ?_; intro U h; simp only [z0, z1] at h; subst h)
  refine jx _ rfl rfl (vFa) rfl ?_
  refine jx _ rfl rfl (vFa) rfl ?_
  refine nr ?_; intro U h; simp only [z0, z1] at h; subst h
  iterate 5 (refine jv _ rfl rfl y47 rfl ?_; refine nr ?_; intro U h; simp only [z0, z1] at h; subst h)
  refine jx _ rfl rfl (vFa) rfl ?_
  refine jx _ rfl rfl (vFa) rfl ?_
  refine nr ?_; intro U h; simp only [z0, z1] at h; subst h
  iterate 5 (refine jv _ rfl rfl y54 rfl ?_; refine nr ?_; intro U h; simp only [z0, z1] at h; subst h)
  refine jx _ rfl rfl (vFa) rfl ?_
  refine jx _ rfl rfl (vFa) rfl ?_
  refine nr ?_; intro U h; simp only [z0, z1] at h; subst h
  iterate 5 (refine jv _ rfl rfl y61 rfl ?_; refine nr ?_; intro U h; simp only [z0, z1] at h; subst h)
  refine jx _ rfl rfl (vFa) rfl ?_
  refine jx _ rfl rfl (vFa) rfl ?_
  refine nr ?_; intro U h; simp only [z0, z1] at h; subst h
  iterate 5 (refine jv _ rfl rfl y68 rfl ?_; refine nr ?_; intro U h; simp only [z0, z1] at h; subst h)
  refine jx _ rfl rfl (vFa) rfl ?_
  refine jx _ rfl rfl (vFa) rfl ?_
  refine nr ?_; intro U h; simp only [z0, z1] at h; subst h
  iterate 7 (refine jv _ rfl rfl y75 rfl ?_; refine nr ?_; intro U h; simp only [z0, z1] at h; subst h)
  refine jx _ rfl rfl (vFa) rfl ?_
  refine jx _ rfl rfl (vFa) rfl ?_
  refine wpList_nil (jc (wp_ret ?_))
  refine bodyPost_ret (results_tmp Try.results18 _ _ _) rfl ?_
  first | exact ⟨congrArg (fun b => Ending.returned (.bool b)) (ze hne), GG⟩ | exact ⟨congrArg (fun b => Ending.returned (.bool b)) (jY hne), GG⟩ | exact ⟨by simp only [sameK, sameB] at *; simp [*], GG⟩
  refine mv 84 (vTr) ?_
  refine nr ?_; intro U h; simp only [z0, z1] at h; subst h
  refine mv 85 (vTr) (ji 86 rfl rfl y26 rfl (pK g1 35) (jd 46 _ 4 rfl _ _ rfl _) (ji 87 rfl rfl y26 rfl (.agg (c23 f.b)) (jf 23 _ rfl g1 35 16 rfl 46 _ kg1 _ Try.underlying23 rfl si23 _) ?_))
  refine nr ?_; intro U h; simp only [z0, z1] at h; subst h
  refine ji 88 rfl rfl y26 rfl (pK g2 35) (jd 46 _ 4 rfl _ _ rfl _) (ji 89 rfl rfl y26 rfl (.agg (c23 g.b)) (jf 23 _ rfl g2 35 16 rfl 46 _ kg2 _ Try.underlying23 rfl si23 _) ?_)
  refine nr ?_; intro U h; simp only [z0, z1] at h; subst h
  obtain ⟨p9, hp9⟩ : ∃ p, decide (idL f.b = idL g.b) = p := ⟨_, rfl⟩
  refine ji 90 rfl rfl y26 rfl (.bool p9) (zv .eql 23 _ _ _ rfl _ _ rfl rfl (by kernel_rfl) _ ((eq23 f.b g.b _).trans (by rw [hp9]))) ?_
  refine nr ?_; intro U h; simp only [z0, z1] at h; subst h
  cases p9
  refine jx _ rfl rfl (vFa) rfl ?_
  refine jx _ rfl rfl (vFa) rfl ?_
  refine nr ?_; intro U h; simp only [z0, z1] at h; subst h
  iterate 5 (refine jv _ rfl rfl y33 rfl ?_; refine nr ?_; intro U h; simp only [z0, z1] at h; subst h)
  refine jx _ rfl rfl (vFa) rfl ?_
  refine jx _ rfl rfl (vFa) rfl ?_
  refine nr ?_; intro U h; simp only [z0, z1] at h; subst h
  iterate 5 (refine jv _ rfl rfl y40 rfl ?_; refine nr ?_; intro U h; simp only [z0, z1] at h; subst h)
  refine jx _ rfl rfl (vFa) rfl ?_
  refine jx _ rfl rfl (vFa) rfl ?_
  refine nr ?_; intro U h; simp only [z0, z1] at h; subst h
  iterate 5 (refine jv _ rfl rfl y47 rfl ?_; refine nr ?_; intro U h; simp only [z0, z1] at h; subst h)
  refine jx _ rfl rfl (vFa) rfl ?_
  refine jx _ rfl rfl (vFa) rfl ?_
  refine nr ?_; intro U h; simp only [z0, z1] at h; subst h
  iterate 5 (refine jv _ rfl rfl y54 rfl ?_; refine nr ?_; intro U h; simp only [z0, z1] at h; subst h)
  refine jx _ rfl rfl (vFa) rfl ?_
  refine jx _ rfl rfl (vFa) rfl ?_
  refine nr ?_; intro U h; simp only [z0, z1] at h; subst h
  iterate 5 (refine jv _ rfl rfl y61 rfl ?_; refine nr ?_; intro U h; simp only [z0, z1] at h; subst h)
  refine jx _ rfl rfl (vFa) rfl ?_
  refine jx _ rfl rfl (vFa) rfl ?_
  refine nr ?_; intro U h; simp only [z0, z1] at h; subst h
  iterate 5 (refine jv _ rfl rfl y68 rfl ?_; refine nr ?_; intro U h; simp only [z0, z1] at h; subst h)
  refine jx _ rfl rfl (vFa) rfl ?_
  refine jx _ rfl rfl (vFa) rfl ?_
  refine nr ?_; intro U h; simp only [z0, z1] at h; subst h
  iterate 7 (refine jv _ rfl rfl y75 rfl ?_; refine nr ?_; intro U h; simp only [z0, z1] at h; subst h)
  refine jx _ rfl rfl (vFa) rfl ?_
  refine jx _ rfl rfl (vFa) rfl ?_
  refine wpList_nil (jc (wp_ret ?_))
  refine bodyPost_ret (results_tmp Try.results18 _ _ _) rfl ?_
  first | exact ⟨congrArg (fun b => Ending.returned (.bool b)) (ze hne), GG⟩ | exact ⟨congrArg (fun b => Ending.returned (.bool b)) (jY hne), GG⟩ | exact ⟨by simp only [sameK, sameB] at *; simp [*], GG⟩
  refine mv 91 (vTr) ?_
  refine nr ?_; intro U h; simp only [z0, z1] at h; subst h
  refine mv 92 (vTr) (ji 93 rfl rfl y33 rfl (pK g1 51) (jd 46 _ 5 rfl _ _ rfl _) (ji 94 rfl rfl y33 rfl (iK f.n) (jh 2 _ rfl g1 51 rfl 46 _ kg1 (na2 _) _ rfl) ?_))
  refine nr ?_; intro U h; simp only [z0, z1] at h; subst h
  refine ji 95 rfl rfl y33 rfl (pK g2 51) (jd 46 _ 5 rfl _ _ rfl _) (ji 96 rfl rfl y33 rfl (iK g.n) (jh 2 _ rfl g2 51 rfl 46 _ kg2 (na2 _) _ rfl) ?_)
  refine nr ?_; intro U h; simp only [z0, z1] at h; subst h
  obtain ⟨p10, hp10⟩ : ∃ p, decide (f.n = g.n) = p := ⟨_, rfl⟩
  refine ji 97 rfl rfl y33 rfl (.bool p10) (jo 2 .i64 _ _ _ rfl Try.underlying2 f.n g.n rfl rfl p10 hp10 _) ?_
  refine nr ?_; intro U h; simp only [z0, z1] at h; subst h
  cases p10
  refine jx _ rfl rfl (vFa) rfl ?_
  refine jx _ rfl rfl (vFa) rfl ?_
  refine nr ?_; intro U h; simp only [z0, z1] at h; subst h
  iterate 5 (refine jv _ rfl rfl y40 rfl ?_; refine nr ?_; intro U h; simp only [z0, z1] at h; subst h)
  refine jx _ rfl rfl (vFa) rfl ?_
  refine jx _ rfl rfl (vFa) rfl ?_
  refine nr ?_; intro U h; simp only [z0, z1] at h; subst h
  iterate 5 (refine jv _ rfl rfl y47 rfl ?_; refine nr ?_; intro U h; simp only [z0, z1] at h; subst h)
  refine jx _ rfl rfl (vFa) rfl ?_
  refine jx _ rfl rfl (vFa) rfl ?_
  refine nr ?_; intro U h; simp only [z0, z1] at h; subst h
  iterate 5 (refine jv _ rfl rfl y54 rfl ?_; refine nr ?_; intro U h; simp only [z0, z1] at h; subst h)
  refine jx _ rfl rfl (vFa) rfl ?_
  refine jx _ rfl rfl (vFa) rfl ?_
  refine nr ?_; intro U h; simp only [z0, z1] at h; subst h
  iterate 5 (refine jv _ rfl rfl y61 rfl ?_; refine nr ?_; intro U h; simp only [z0, z1] at h; subst h)
  refine jx _ rfl rfl (vFa) rfl ?_
  refine jx _ rfl rfl (vFa) rfl ?_
  refine nr ?_; intro U h; simp only [z0, z1] at h; subst h
  iterate 5 (refine jv _ rfl rfl y68 rfl ?_; refine nr ?_; intro U h; simp only [z0, z1] at h; subst h)
  refine jx _ rfl rfl (vFa) rfl ?_
  refine jx _ rfl rfl (vFa) rfl ?_
  refine nr ?_; intro U h; simp only [z0, z1] at h; subst h
  iterate 7 (refine jv _ rfl rfl y75 rfl ?_; refine nr ?_; intro U h; simp only [z0, z1] at h; subst h)
  refine jx _ rfl rfl (vFa) rfl ?_
  refine jx _ rfl rfl (vFa) rfl ?_
  refine wpList_nil (jc (wp_ret ?_))
  refine bodyPost_ret (results_tmp Try.results18 _ _ _) rfl ?_
  first | exact ⟨congrArg (fun b => Ending.returned (.bool b)) (ze hne), GG⟩ | exact ⟨congrArg (fun b => Ending.returned (.bool b)) (jY hne), GG⟩ | exact ⟨by simp only [sameK, sameB] at *; simp [*], GG⟩
  refine mv 98 (vTr) ?_
  refine nr ?_; intro U h; simp only [z0, z1] at h; subst h
  refine mv 99 (vTr) (ji 100 rfl rfl y40 rfl (pK g1 52) (jd 46 _ 6 rfl _ _ rfl _) (ji 101 rfl rfl y40 rfl (.agg (c29 f.fi f.fn)) (jf 29 _ rfl g1 52 2 rfl 46 _ kg1 _ Try.underlying29 rfl si29 _) ?_))
  refine nr ?_; intro U h; simp only [z0, z1] at h; subst h
  refine ji 102 rfl rfl y40 rfl (pK g2 52) (jd 46 _ 6 rfl _ _ rfl _) (ji 103 rfl rfl y40 rfl (.agg (c29 g.fi g.fn)) (jf 29 _ rfl g2 52 2 rfl 46 _ kg2 _ Try.underlying29 rfl si29 _) ?_)
  refine nr ?_; intro U h; simp only [z0, z1] at h; subst h
  obtain ⟨p11, hp11⟩ : ∃ p, (decide (f.fi = g.fi) && decide (f.fn = g.fn)) = p := ⟨_, rfl⟩
  refine ji 104 rfl rfl y40 rfl (.bool p11) (zv .eql 29 _ _ _ rfl _ _ rfl rfl (by kernel_rfl) _ ((eq27 f.fi g.fi f.fn g.fn _).trans (by rw [hp11]))) ?_
  refine nr ?_; intro U h; simp only [z0, z1] at h; subst h
  cases p11
  refine jx _ rfl rfl (vFa) rfl ?_
  refine jx _ rfl rfl (vFa) rfl ?_
  refine nr ?_; intro U h; simp only [z0, z1] at h; subst h
  iterate 5 (refine jv _ rfl rfl y47 rfl ?_; refine nr ?_; intro U h; simp only [z0, z1] at h; subst h)
  refine jx _ rfl rfl (vFa) rfl ?_
  refine jx _ rfl rfl (vFa) rfl ?_
  refine nr ?_; intro U h; simp only [z0, z1] at h; subst h
  iterate 5 (refine jv _ rfl rfl y54 rfl ?_; refine nr ?_; intro U h; simp only [z0, z1] at h; subst h)
  refine jx _ rfl rfl (vFa) rfl ?_
  refine jx _ rfl rfl (vFa) rfl ?_
  refine nr ?_; intro U h; simp only [z0, z1] at h; subst h
  iterate 5 (refine jv _ rfl rfl y61 rfl ?_; refine nr ?_; intro U h; simp only [z0, z1] at h; subst h)
  refine jx _ rfl rfl (vFa) rfl ?_
  refine jx _ rfl rfl (vFa) rfl ?_
  refine nr ?_; intro U h; simp only [z0, z1] at h; subst h
  iterate 5 (refine jv _ rfl rfl y68 rfl ?_; refine nr ?_; intro U h; simp only [z0, z1] at h; subst h)
  refine jx _ rfl rfl (vFa) rfl ?_
  refine jx _ rfl rfl (vFa) rfl ?_
  refine nr ?_; intro U h; simp only [z0, z1] at h; subst h
  iterate 7 (refine jv _ rfl rfl y75 rfl ?_; refine nr ?_; intro U h; simp only [z0, z1] at h; subst h)
  refine jx _ rfl rfl (vFa) rfl ?_
  refine jx _ rfl rfl (vFa) rfl ?_
  refine wpList_nil (jc (wp_ret ?_))
  refine bodyPost_ret (results_tmp Try.results18 _ _ _) rfl ?_
  first | exact ⟨congrArg (fun b => Ending.returned (.bool b)) (ze hne), GG⟩ | exact ⟨congrArg (fun b => Ending.returned (.bool b)) (jY hne), GG⟩ | exact ⟨by simp only [sameK, sameB] at *; simp [*], GG⟩
  refine mv 105 (vTr) ?_
  refine nr ?_; intro U h; simp only [z0, z1] at h; subst h
  refine mv 106 (vTr) (ji 107 rfl rfl y47 rfl (pK g1 54) (jd 46 _ 7 rfl _ _ rfl _) (ji 108 rfl rfl y47 rfl (.agg (c29 f.ti f.tn)) (jf 29 _ rfl g1 54 2 rfl 46 _ kg1 _ Try.underlying29 rfl si29 _) ?_))
  refine nr ?_; intro U h; simp only [z0, z1] at h; subst h
  refine ji 109 rfl rfl y47 rfl (pK g2 54) (jd 46 _ 7 rfl _ _ rfl _) (ji 110 rfl rfl y47 rfl (.agg (c29 g.ti g.tn)) (jf 29 _ rfl g2 54 2 rfl 46 _ kg2 _ Try.underlying29 rfl si29 _) ?_)
  refine nr ?_; intro U h; simp only [z0, z1] at h; subst h
  obtain ⟨p12, hp12⟩ : ∃ p, (decide (f.ti = g.ti) && decide (f.tn = g.tn)) = p := ⟨_, rfl⟩
  refine ji 111 rfl rfl y47 rfl (.bool p12) (zv .eql 29 _ _ _ rfl _ _ rfl rfl (by kernel_rfl) _ ((eq27 f.ti g.ti f.tn g.tn _).trans (by rw [hp12]))) ?_
  refine nr ?_; intro U h; simp only [z0, z1] at h; subst h
  cases p12
  refine jx _ rfl rfl (vFa) rfl ?_
  refine jx _ rfl rfl (vFa) rfl ?_
  refine nr ?_; intro U h; simp only [z0, z1] at h; subst h
  iterate 5 (refine jv _ rfl rfl y54 rfl ?_; refine nr ?_; intro U h; simp only [z0, z1] at h; subst h)
  refine jx _ rfl rfl (vFa) rfl ?_
  refine jx _ rfl rfl (vFa) rfl ?_
  refine nr ?_; intro U h; simp only [z0, z1] at h; subst h
  iterate 5 (refine jv _ rfl rfl y61 rfl ?_; refine nr ?_; intro U h; simp only [z0, z1] at h; subst h)
  refine jx _ rfl rfl (vFa) rfl ?_
  refine jx _ rfl rfl (vFa) rfl ?_
  refine nr ?_; intro U h; simp only [z0, z1] at h; subst h
  iterate 5 (refine jv _ rfl rfl y68 rfl ?_; refine nr ?_; intro U h; simp only [z0, z1] at h; subst h)
  refine jx _ rfl rfl (vFa) rfl ?_
  refine jx _ rfl rfl (vFa) rfl ?_
  refine nr ?_; intro U h; simp only [z0, z1] at h; subst h
  iterate 7 (refine jv _ rfl rfl y75 rfl ?_; refine nr ?_; intro U h; simp only [z0, z1] at h; subst h)
  refine jx _ rfl rfl (vFa) rfl ?_
  refine jx _ rfl rfl (vFa) rfl ?_
  refine wpList_nil (jc (wp_ret ?_))
  refine bodyPost_ret (results_tmp Try.results18 _ _ _) rfl ?_
  first | exact ⟨congrArg (fun b => Ending.returned (.bool b)) (ze hne), GG⟩ | exact ⟨congrArg (fun b => Ending.returned (.bool b)) (jY hne), GG⟩ | exact ⟨by simp only [sameK, sameB] at *; simp [*], GG⟩
  refine mv 112 (vTr) ?_
  refine nr ?_; intro U h; simp only [z0, z1] at h; subst h
  refine mv 113 (vTr) (ji 114 rfl rfl y54 rfl (pK g1 58) (jd 46 _ 10 rfl _ _ rfl _) (ji 115 rfl rfl y54 rfl (.agg (c44 f.key f.vn f.vw f.val)) (jf 44 _ rfl g1 58 34 rfl 46 _ kg1 _ Try.underlying44 rfl si44 _) ?_))
  refine nr ?_; intro U h; simp only [z0, z1] at h; subst h
  refine ji 116 rfl rfl y54 rfl (pK g2 58) (jd 46 _ 10 rfl _ _ rfl _) (ji 117 rfl rfl y54 rfl (.agg (c44 g.key g.vn g.vw g.val)) (jf 44 _ rfl g2 58 34 rfl 46 _ kg2 _ Try.underlying44 rfl si44 _) ?_)
  refine nr ?_; intro U h; simp only [z0, z1] at h; subst h
  obtain ⟨p13, hp13⟩ : ∃ p, itemB f g df dg = p := ⟨_, rfl⟩
  have HC := Jw f g df dg wv (HF.gro GG) (HG.gro GG)
  rw [hp13] at HC
  refine zW 118 rfl rfl y54 rfl _ 42 Try.call42 rfl rfl _ rfl [.agg (c44 f.key f.vn f.vw f.val), .agg (c44 g.key g.vn g.vw g.val)] rfl (HC) ?_
  intro w3 G
  replace kg1 := G.has kg1
  replace kg2 := G.has kg2
  replace GG := GG.trans G
  clear G
  refine nr ?_; intro U h; simp only [z0, z1] at h; subst h
  clear HC
  cases p13
  refine jx _ rfl rfl (vFa) rfl ?_
  refine jx _ rfl rfl (vFa) rfl ?_
  refine nr ?_; intro U h; simp only [z0, z1] at h; subst h
  iterate 5 (refine jv _ rfl rfl y61 rfl ?_; refine nr ?_; intro U h; simp only [z0, z1] at h; subst h)
  refine jx _ rfl rfl (vFa) rfl ?_
  refine jx _ rfl rfl (vFa) rfl ?_
  refine nr ?_; intro U h; simp only [z0, z1] at h; subst h
  iterate 5 (refine jv _ rfl rfl y68 rfl ?_; refine nr ?_; intro U h; simp only [z0, z1] at h; subst h)
  refine jx _ rfl rfl (vFa) rfl ?_
  refine jx _ rfl rfl (vFa) rfl ?_
  refine nr ?_; intro U h; simp only [z0, z1] at h; subst h
  iterate 7 (refine jv _ rfl rfl y75 rfl ?_; refine nr ?_; intro U h; simp only [z0, z1] at h; subst h)
  refine jx _ rfl rfl (vFa) rfl ?_
  refine jx _ rfl rfl (vFa) rfl ?_
  refine wpList_nil (jc (wp_ret ?_))
  refine bodyPost_ret (results_tmp Try.results18 _ _ _) rfl ?_
  first | exact ⟨congrArg (fun b => Ending.returned (.bool b)) (ze hne), GG⟩ | exact ⟨congrArg (fun b => Ending.returned (.bool b)) (jY hne), GG⟩ | exact ⟨by simp only [sameK, sameB, itemB] at *; simp [*], GG⟩
  refine mv 119 (vTr) ?_
  refine nr ?_; intro U h; simp only [z0, z1] at h; subst h
  refine mv 120 (vTr) (ji 121 rfl rfl y61 rfl (pK g1 92) (jd 46 _ 11 rfl _ _ rfl _) (ji 122 rfl rfl y61 rfl (iK f.op) (jh 3 _ rfl g1 92 rfl 46 _ kg1 (na3 _) _ rfl) ?_))
  refine nr ?_; intro U h; simp only [z0, z1] at h; subst h
  refine ji 123 rfl rfl y61 rfl (pK g2 92) (jd 46 _ 11 rfl _ _ rfl _) (ji 124 rfl rfl y61 rfl (iK g.op) (jh 3 _ rfl g2 92 rfl 46 _ kg2 (na3 _) _ rfl) ?_)
  refine nr ?_; intro U h; simp only [z0, z1] at h; subst h
  obtain ⟨p14, hp14⟩ : ∃ p, decide (f.op = g.op) = p := ⟨_, rfl⟩
  refine ji 125 rfl rfl y61 rfl (.bool p14) (jo 3 .i64 _ _ _ rfl Try.underlying3 f.op g.op rfl rfl p14 hp14 _) ?_
  refine nr ?_; intro U h; simp only [z0, z1] at h; subst h
  cases p14
  refine jx _ rfl rfl (vFa) rfl ?_
  refine jx _ rfl rfl (vFa) rfl ?_
  refine nr ?_; intro U h; simp only [z0, z1] at h; subst h
  iterate 5 (refine jv _ rfl rfl y68 rfl ?_; refine nr ?_; intro U h; simp only [z0, z1] at h; subst h)
  refine jx _ rfl rfl (vFa) rfl ?_
  refine jx _ rfl rfl (vFa) rfl ?_
  refine nr ?_; intro U h; simp only [z0, z1] at h; subst h
  iterate 7 (refine jv _ rfl rfl y75 rfl ?_; refine nr ?_; intro U h; simp only [z0, z1] at h; subst h)
  refine jx _ rfl rfl (vFa) rfl ?_
  refine jx _ rfl rfl (vFa) rfl ?_
  refine wpList_nil (jc (wp_ret ?_))
  refine bodyPost_ret (results_tmp Try.results18 _ _ _) rfl ?_
  first | exact ⟨congrArg (fun b => Ending.returned (.bool b)) (ze hne), GG⟩ | exact ⟨congrArg (fun b => Ending.returned (.bool b)) (jY hne), GG⟩ | exact ⟨by simp only [sameK, sameB, itemB] at *; simp [*], GG⟩
  refine mv 126 (vTr) ?_
  refine nr ?_; intro U h; simp only [z0, z1] at h; subst h
  refine mv 127 (vTr) (ji 128 rfl rfl y68 rfl (pK g1 93) (jd 46 _ 12 rfl _ _ rfl _) (ji 129 rfl rfl y68 rfl (iK f.ttl) (jh 3 _ rfl g1 93 rfl 46 _ kg1 (na3 _) _ rfl) ?_))
  refine nr ?_; intro U h; simp only [z0, z1] at h; subst h
  refine ji 130 rfl rfl y68 rfl (pK g2 93) (jd 46 _ 12 rfl _ _ rfl _) (ji 131 rfl rfl y68 rfl (iK g.ttl) (jh 3 _ rfl g2 93 rfl 46 _ kg2 (na3 _) _ rfl) ?_)
  refine nr ?_; intro U h; simp only [z0, z1] at h; subst h
  obtain ⟨p15, hp15⟩ : ∃ p, decide (f.ttl = g.ttl) = p := ⟨_, rfl⟩
  refine ji 132 rfl rfl y68 rfl (.bool p15) (jo 3 .i64 _ _ _ rfl Try.underlying3 f.ttl g.ttl rfl rfl p15 hp15 _) ?_
  refine nr ?_; intro U h; simp only [z0, z1] at h; subst h
  cases p15
  refine jx _ rfl rfl (vFa) rfl ?_
  refine jx _ rfl rfl (vFa) rfl ?_
  refine nr ?_; intro U h; simp only [z0, z1] at h; subst h
  iterate 7 (refine jv _ rfl rfl y75 rfl ?_; refine nr ?_; intro U h; simp only [z0, z1] at h; subst h)
  refine jx _ rfl rfl (vFa) rfl ?_
  refine jx _ rfl rfl (vFa) rfl ?_
  refine wpList_nil (jc (wp_ret ?_))
  refine bodyPost_ret (results_tmp Try.results18 _ _ _) rfl ?_
  first | exact ⟨congrArg (fun b => Ending.returned (.bool b)) (ze hne), GG⟩ | exact ⟨congrArg (fun b => Ending.returned (.bool b)) (jY hne), GG⟩ | exact ⟨by simp only [sameK, sameB, itemB] at *; simp [*], GG⟩
  refine mv 133 (vTr) ?_
  refine nr ?_; intro U h; simp only [z0, z1] at h; subst h
  refine mv 134 (vTr) (ji 135 rfl rfl y75 rfl (pK g1 94) (jd 46 _ 13 rfl _ _ rfl _) (ji 136 rfl rfl y75 rfl (.slice f.tx.ao f.tx.n f.tx.cap) (jh 36 _ rfl g1 94 rfl 46 _ kg1 (na36 _) _ rfl) ?_))
  refine nr ?_; intro U h; simp only [z0, z1] at h; subst h
  refine ji 137 rfl rfl y75 rfl (.string (bas df.tx)) (zw bT 9 Try.underlying9 _ rfl (l := df.tx) (by rw [← lfx]; rfl) (vU (HF.gro GG).tx HF.otx)) (ji 138 rfl rfl y75 rfl (pK g2 94) (jd 46 _ 13 rfl _ _ rfl _) (ji 139 rfl rfl y75 rfl (.slice g.tx.ao g.tx.n g.tx.cap) (jh 36 _ rfl g2 94 rfl 46 _ kg2 (na36 _) _ rfl) ?_))
  refine nr ?_; intro U h; simp only [z0, z1] at h; subst h
  refine ji 140 rfl rfl y75 rfl (.string (bas dg.tx)) (zw bT 9 Try.underlying9 _ rfl (l := dg.tx) (by rw [← lgx]; rfl) (vU (HG.gro GG).tx HG.otx)) ?_
  refine nr ?_; intro U h; simp only [z0, z1] at h; subst h
  obtain ⟨p16, hp16⟩ : ∃ p, decide (df.tx = dg.tx) = p := ⟨_, rfl⟩
  refine ji 141 rfl rfl y75 rfl (.bool p16) (vE _ _ _ rfl _ _ rfl rfl p16 ((Zo HF.otx HG.otx).trans hp16) _) ?_
  refine nr ?_; intro U h; simp only [z0, z1] at h; subst h
  cases p16
  refine jx _ rfl rfl (vFa) rfl ?_
  refine jx _ rfl rfl (vFa) rfl ?_
  refine wpList_nil (jc (wp_ret ?_))
  refine bodyPost_ret (results_tmp Try.results18 _ _ _) rfl ?_
  first | exact ⟨congrArg (fun b => Ending.returned (.bool b)) (ze hne), GG⟩ | exact ⟨congrArg (fun b => Ending.returned (.bool b)) (jY hne), GG⟩ | exact ⟨by simp only [sameK, sameB, itemB] at *; simp [*], GG⟩
  refine mv 142 (vTr) ?_
  refine nr ?_; intro U h; simp only [z0, z1] at h; subst h
  refine mv 4 (vTr) (wpList_nil (jc (wp_ret ?_)))
  refine bodyPost_ret (results_tmp Try.results18 _ _ _) rfl ?_
  first | exact ⟨congrArg (fun b => Ending.returned (.bool b)) (ze hne), GG⟩ | exact ⟨congrArg (fun b => Ending.returned (.bool b)) (jY hne), GG⟩ | exact ⟨by simp only [sameK, sameB, itemB] at *; simp [*], GG⟩
  have hin : i < df.ids.length := by have := of_decide_eq_true hp4; omega
  obtain ⟨ad, hao⟩ := HF.ids.some (by omega)
  obtain ⟨bd, hbo⟩ := HG.ids.some (by omega)
  have hc1 := yC df.ids i HF.oids hin
  have hc2 := (HF.oids _ (yu df.ids [] i hin)).1
  have E1c : (((cellsI df.ids).drop (i * 16)).take 16).toArray = c23 (idF (df.ids.getD i [])) := by rw [hc1, ← YS hc2]; rfl
  have hc3 := yC dg.ids i HG.oids (by omega)
  have hc4 := (HG.oids _ (yu dg.ids [] i (by omega))).1
  have E2c : (((cellsI dg.ids).drop (i * 16)).take 16).toArray = c23 (idF (dg.ids.getD i [])) := by rw [hc3, ← YS hc4]; rfl
  refine wpList_nil (jc (wp_cond_true rfl (wp_skip (jc (wp_seq (wp_block (wp_seq ?_)))))))
  refine jk (A := ?Ax1) 10 [(0, 48), (1, 49), (2, 50), (3, 51), (4, 52), (5, 53), (6, 54), (7, 55), (8, 56), (9, 57)] [.val (pK g1 57), .val (.slice f.ids.ao f.ids.n f.ids.cap), .val (iK ((i : Nat) : Int)), .val (.pointer (some (ad.add (i * 16)))), .val (.agg (c23 (idF (df.ids.getD i [])))), .val (pK g2 57), .val (.slice g.ids.ao g.ids.n g.ids.cap), .val (iK ((i : Nat) : Int)), .val (.pointer (some (bd.add (i * 16)))), .val (.agg (c23 (idF (dg.ids.getD i []))))] follows (by kernel_rfl) rfl ?hAx1 (ja ?o0x1 (ja ?o1x1 (ja ?o2x1 (ja ?o3x1 (ja ?o4x1 (ja ?o5x1 (ja ?o6x1 (ja ?o7x1 (ja ?o8x1 (ja ?o9x1 jw)))))))))) ?restx1
  case hAx1 =>
    intro ptrs
    simp only [full, foldSlots, filledE, postE, List.foldl_cons, List.foldl_nil, List.getD_cons_zero, List.getD_cons_succ, jr, List.set_cons_zero, List.set_cons_succ]
    exact rfl
  case o0x1 => exact fun _ _ hw _ => jb (v := pK g1 57) rfl (jd 46 _ 9 rfl _ _ rfl _)
  case o1x1 => exact fun _ _ hw _ => jb (v := .slice f.ids.ao f.ids.n f.ids.cap) rfl (jh 40 _ rfl g1 57 rfl 46 _ (hw.has kg1) (na40 _) _ rfl)
  case o2x1 => exact fun _ _ _ _ => jg (v := iK ((i : Nat) : Int)) _ rfl rfl rfl
  case o3x1 => exact fun _ _ hw _ => jb (v := .pointer (some (ad.add (i * 16)))) rfl (yo iT29 _ _ rfl ad f.ids.n f.ids.cap i (by exact congrArg (fun a => Value.slice a f.ids.n f.ids.cap) hao) rfl (by omega) _)
  case o4x1 => exact fun _ _ hw _ => jb (v := .agg (c23 (idF (df.ids.getD i [])))) rfl (yN iT29 _ Try.underlying23 rfl _ rfl ad i rfl _ (by rw [← hao]; exact HF.ids.gro (GG.drew.trans hw)) (by omega) _ E1c)
  case o5x1 => exact fun _ _ hw _ => jb (v := pK g2 57) rfl (jd 46 _ 9 rfl _ _ rfl _)
  case o6x1 => exact fun _ _ hw _ => jb (v := .slice g.ids.ao g.ids.n g.ids.cap) rfl (jh 40 _ rfl g2 57 rfl 46 _ (hw.has kg2) (na40 _) _ rfl)
  case o7x1 => exact fun _ _ _ _ => jg (v := iK ((i : Nat) : Int)) _ rfl rfl rfl
  case o8x1 => exact fun _ _ hw _ => jb (v := .pointer (some (bd.add (i * 16)))) rfl (yo iT29 _ _ rfl bd g.ids.n g.ids.cap i (by exact congrArg (fun a => Value.slice a g.ids.n g.ids.cap) hbo) rfl (by omega) _)
  case o9x1 => exact fun _ _ hw _ => jb (v := .agg (c23 (idF (dg.ids.getD i [])))) rfl (yN iT29 _ Try.underlying23 rfl _ rfl bd i rfl _ (by rw [← hbo]; exact HG.ids.gro (GG.drew.trans hw)) (by omega) _ E2c)
  intro ptrs w3 GD hxE
  simp only [List.drop_succ_cons, List.drop_zero]
  replace kg1 := GD.has kg1
  replace kg2 := GD.has kg2
  replace GG := GG.drew.trans GD
  clear GD
  obtain ⟨p5, hp5⟩ : ∃ p, (!decide (df.ids.getD i [] = dg.ids.getD i [])) = p := ⟨_, rfl⟩
  refine sv 58 (.bool p5) (zv .neq 23 _ _ _ rfl _ _ rfl rfl (by kernel_rfl) _ ((ne23 _ _ _).trans (by rw [uy (HF.oids _ (yu df.ids [] i hin)).1, uy (HG.oids _ (yu dg.ids [] i (by omega))).1, hp5]))) ?_
  refine nr ?_; intro U h; simp only [z0, z1] at h; subst h
  cases p5
  refine wpList_nil (jc (wp_cond_false rfl (wp_skip (zh (jc (wp_region_lit (mv 46 (iK ((i : Nat) : Int)) (sv 47 (iK ((i + 1 : Nat) : Int)) (vd _ _ _ rfl ((i : Nat) : Int) 1 _ rfl rfl (by omega) (by omega) (by omega) _) (mv 6 (iK ((i + 1 : Nat) : Int)) ?_)))))))))
  refine nr ?_; intro U h; simp only [z0, z1] at h; subst h
  refine wpList_nil (jc ?_)
  exact ⟨_, (by omega : df.ids.length - (i + 1) < df.ids.length - i), i + 1, usB [4, 41, 42, 43, 44, 45, 46, 47, 48, 49, 50, 51, 52, 53, 54, 55, 56, 57, 58] rfl rfl ⟨hin, vX _ _ [] i hu hin (by omega) (by simpa using hp5), GG, kg1, kg2⟩⟩
  have hne : ¬ df.ids = dg.ids := fun e => by rw [e] at hp5; simp at hp5
  refine wpList_nil (jc (wp_cond_true rfl (wp_seq (wp_region_lit (mv 4 (vFa) (wpList_nil (jc (wp_ret (jV (jC (jC (jV (jC ?_)))))))))))))
  refine bodyPost_ret (results_tmp Try.results18 _ _ _) rfl ?_
  first | exact ⟨congrArg (fun b => Ending.returned (.bool b)) (ze hne), GG⟩ | exact ⟨congrArg (fun b => Ending.returned (.bool b)) (jY hne), GG⟩ | exact ⟨by simp only [sameK, sameB, itemB] at *; simp [htt, huu, *], GG⟩
  have hjn : j < df.tr.length := by have := of_decide_eq_true hp3; omega
  obtain ⟨ad, hao, clA⟩ := ZN (HFt.gro GG) hjn
  obtain ⟨bd, hbo, clB⟩ := ZN (HGt.gro GG) (show j < dg.tr.length by omega)
  refine wpList_nil (jc (wp_cond_true rfl (wp_skip (jc (wp_seq (wp_block (wp_seq ?_)))))))
  refine jk (A := ?Ax2) 10 [(0, 30), (1, 31), (2, 32), (3, 33), (4, 34), (5, 35), (6, 36), (7, 37), (8, 38), (9, 39)] [.val (pK g1 56), .val (.slice f.tr.ao f.tr.n f.tr.cap), .val (iK ((j : Nat) : Int)), .val (.pointer (some (ad.add j))), .val (iK (df.tr.getD j 0)), .val (pK g2 56), .val (.slice g.tr.ao g.tr.n g.tr.cap), .val (iK ((j : Nat) : Int)), .val (.pointer (some (bd.add j))), .val (iK (dg.tr.getD j 0))] follows (by kernel_rfl) rfl ?hAx2 (ja ?o0x2 (ja ?o1x2 (ja ?o2x2 (ja ?o3x2 (ja ?o4x2 (ja ?o5x2 (ja ?o6x2 (ja ?o7x2 (ja ?o8x2 (ja ?o9x2 jw)))))))))) ?restx2
  case hAx2 =>
    intro ptrs
    simp only [full, foldSlots, filledE, postE, List.foldl_cons, List.foldl_nil, List.getD_cons_zero, List.getD_cons_succ, jr, List.set_cons_zero, List.set_cons_succ]
    exact rfl
  case o0x2 => exact fun _ _ hw _ => jb (v := pK g1 56) rfl (jd 46 _ 8 rfl _ _ rfl _)
  case o1x2 => exact fun _ _ hw _ => jb (v := .slice f.tr.ao f.tr.n f.tr.cap) rfl (jh 39 _ rfl g1 56 rfl 46 _ (hw.has kg1) (na39 _) _ rfl)
  case o2x2 => exact fun _ _ _ _ => jg (v := iK ((j : Nat) : Int)) _ rfl rfl rfl
  case o3x2 => exact fun _ _ hw _ => jb (v := .pointer (some (ad.add j))) rfl (vD iT28 _ _ rfl ad f.tr.n f.tr.cap j (by exact congrArg (fun a => Value.slice a f.tr.n f.tr.cap) hao) rfl (by omega) _)
  case o4x2 => exact fun _ _ hw _ => jb (v := iK (df.tr.getD j 0)) rfl (uQ 3 (na3 _) _ rfl (ad.add j) rfl _ (Js hw clA))
  case o5x2 => exact fun _ _ hw _ => jb (v := pK g2 56) rfl (jd 46 _ 8 rfl _ _ rfl _)
  case o6x2 => exact fun _ _ hw _ => jb (v := .slice g.tr.ao g.tr.n g.tr.cap) rfl (jh 39 _ rfl g2 56 rfl 46 _ (hw.has kg2) (na39 _) _ rfl)
  case o7x2 => exact fun _ _ _ _ => jg (v := iK ((j : Nat) : Int)) _ rfl rfl rfl
  case o8x2 => exact fun _ _ hw _ => jb (v := .pointer (some (bd.add j))) rfl (vD iT28 _ _ rfl bd g.tr.n g.tr.cap j (by exact congrArg (fun a => Value.slice a g.tr.n g.tr.cap) hbo) rfl (by omega) _)
  case o9x2 => exact fun _ _ hw _ => jb (v := iK (dg.tr.getD j 0)) rfl (uQ 3 (na3 _) _ rfl (bd.add j) rfl _ (Js hw clB))
  intro ptrs w3 GD hxE
  simp only [List.drop_succ_cons, List.drop_zero]
  replace kg1 := GD.has kg1
  replace kg2 := GD.has kg2
  replace GG := GG.drew.trans GD
  clear GD
  obtain ⟨p4, hp4⟩ : ∃ p, (!decide (df.tr.getD j 0 = dg.tr.getD j 0)) = p := ⟨_, rfl⟩
  refine sv 40 (.bool p4) (jP 3 .i64 _ _ _ rfl Try.underlying3 (df.tr.getD j 0) (dg.tr.getD j 0) rfl rfl p4 (by rw [← hp4, Bool.not_not]) _) ?_
  refine nr ?_; intro U h; simp only [z0, z1] at h; subst h
  cases p4
  refine wpList_nil (jc (wp_cond_false rfl (wp_skip (zh (jc (wp_region_lit (mv 28 (iK ((j : Nat) : Int)) (sv 29 (iK ((j + 1 : Nat) : Int)) (vd _ _ _ rfl ((j : Nat) : Int) 1 _ rfl rfl (by omega) (by omega) (by omega) _) (mv 5 (iK ((j + 1 : Nat) : Int)) ?_)))))))))
  refine nr ?_; intro U h; simp only [z0, z1] at h; subst h
  refine wpList_nil (jc ?_)
  exact ⟨_, (by omega : df.tr.length - (j + 1) < df.tr.length - j), j + 1, usB [4, 23, 24, 25, 26, 27, 28, 29, 30, 31, 32, 33, 34, 35, 36, 37, 38, 39, 40] rfl rfl ⟨hjn, vX _ _ 0 j ht hjn (by omega) (by simpa using hp4), GG, kg1, kg2⟩⟩
  have hne : ¬ df.tr = dg.tr := fun e => by rw [e] at hp4; simp at hp4
  refine wpList_nil (jc (wp_cond_true rfl (wp_seq (wp_region_lit (mv 4 (vFa) (wpList_nil (jc (wp_ret (jV (jC (jC (jV (jC ?_)))))))))))))
  refine bodyPost_ret (results_tmp Try.results18 _ _ _) rfl ?_
  first | exact ⟨congrArg (fun b => Ending.returned (.bool b)) (ze hne), GG⟩ | exact ⟨congrArg (fun b => Ending.returned (.bool b)) (jY hne), GG⟩ | exact ⟨by simp only [sameK, sameB, itemB] at *; simp [htt, huu, *], GG⟩
  have hne : ¬ df.ids = dg.ids := fun e => by rw [e] at lfi; simp at hp2; omega
  refine mv 22 (vTr) (wpList_nil (jc (wp_cond_true rfl (wp_seq (wp_region_lit (mv 4 (vFa) ?_))))))
  refine nr ?_; intro U h; simp only [z0, z1] at h; subst h
  refine wpList_nil (jc (wp_ret (jC ?_)))
  refine bodyPost_ret (results_tmp Try.results18 _ _ _) rfl ?_
  first | exact ⟨congrArg (fun b => Ending.returned (.bool b)) (ze hne), GG⟩ | exact ⟨congrArg (fun b => Ending.returned (.bool b)) (jY hne), GG⟩ | exact ⟨by simp only [sameK, sameB, itemB] at *; simp [htt, huu, *], GG⟩
  have hne : ¬ df.tr = dg.tr := fun e => by rw [e] at lft; simp at hp1; omega
  refine mv 14 (vTr) (jv 15 rfl rfl y7 rfl (jv 16 rfl rfl y7 rfl ?_))
  refine nr ?_; intro U h; simp only [z0, z1] at h; subst h
  refine jv 17 rfl rfl y7 rfl (jv 18 rfl rfl y7 rfl (jv 19 rfl rfl y7 rfl ?_))
  refine nr ?_; intro U h; simp only [z0, z1] at h; subst h
  refine jv 20 rfl rfl y7 rfl (jv 21 rfl rfl y7 rfl (mv 22 (vTr) ?_))
  refine nr ?_; intro U h; simp only [z0, z1] at h; subst h
  refine wpList_nil (jc (wp_cond_true rfl (wp_seq (wp_region_lit (mv 4 (vFa) (wpList_nil (jc (wp_ret (jC ?_)))))))))
  refine bodyPost_ret (results_tmp Try.results18 _ _ _) rfl ?_
  first | exact ⟨congrArg (fun b => Ending.returned (.bool b)) (ze hne), GG⟩ | exact ⟨congrArg (fun b => Ending.returned (.bool b)) (jY hne), GG⟩ | exact ⟨by simp only [sameK, sameB, itemB] at *; simp [htt, huu, *], GG⟩
theorem copy_d (f : Fr) (d : FD) (w : World) (HF : FrW w f d) (HS : FrS f) : Calls Try.prog 21 #[.agg (c46 f.kind f.pw f.pn f.toA f.a f.b f.n f.fi f.fn f.ti f.tn f.tr f.ids f.key f.vn f.vw f.val f.op f.ttl f.tx)] w fun e w' => ∃ s1 s2 s3 s4 : Sl, e = .returned (.agg (frA { f with tr := s1, ids := s2, val := s3, tx := s4 })) ∧ FrO w' w.heap.size { f with tr := s1, ids := s2, val := s3, tx := s4 } d ∧ Gro w w' := by
  refine jp Try.func21 rfl Try.ntmps21 [.agg (c46 f.kind f.pw f.pn f.toA f.a f.b f.n f.fi f.fn f.ti f.tn f.tr f.ids f.key f.vn f.vw f.val f.op f.ttl f.tx)] ?_
  intro U h; simp only [List.length_cons, List.length_nil, List.cons_append, List.nil_append, Nat.reduceAdd, Nat.reduceSub, List.reduceReplicate] at h; subst h
  have GG := Gro.refl w
  refine wp_seq (wp_region_lit ?_)
  refine jB 1 rfl rfl 46 _ rfl _ rfl (c46 f.kind f.pw f.pn f.toA f.a f.b f.n f.fi f.fn f.ti f.tn f.tr f.ids f.key f.vn f.vw f.val f.op f.ttl f.tx) rfl ?_
  intro w1 g1 G eg1 kg1
  have bg1 := jm GG eg1
  replace GG := GG.trans G
  clear G eg1
  refine jq 2 rfl rfl 46 rfl _ zv46 _ rfl ?_
  intro w2 g2 G eg2 kg2
  have bg2 := jm GG eg2
  have dg1g2 := je kg1 eg2
  replace kg1 := G.has kg1
  replace GG := GG.trans G
  clear G eg2
  refine wpList_nil (jc (wp_seq (wp_region_lit ?_)))
  have zg1 := kg1
  have zg2 := kg2
  have zG := GG
  refine zC 39 3 1 (fun _ => by kernel_rfl) 3 rfl rfl rfl ?_
  intro w3 gN G1 e1 HN
  simp only [Act.put, List.setIfInBounds_toArray, List.set_cons_zero, List.set_cons_succ]
  replace kg1 := G1.has kg1
  replace kg2 := G1.has kg2
  refine sv 4 (pK g1 56) (jd 46 _ 8 rfl _ _ rfl _) ?_
  refine nr ?_; intro U h; simp only [z0, z1] at h; subst h
  refine sv 5 (.slice f.tr.ao f.tr.n f.tr.cap) (jh 39 _ rfl g1 56 rfl 46 _ kg1 (na39 _) _ rfl) ?_
  refine nr ?_; intro U h; simp only [z0, z1] at h; subst h
  refine zD iT28 6 rfl rfl _ _ rfl rfl HN rfl ((HF.tr.gro zG).gro G1) (by rw [Nat.zero_add]; exact HS.tr.out) (by decide) (by rw [← e1]; exact G1.size) ?_
  intro sl_tr cl_tr w4 H_tr B2
  rw [Nat.zero_add] at H_tr ⊢
  rw [List.nil_append] at H_tr
  simp only [Act.put, List.setIfInBounds_toArray, List.set_cons_zero, List.set_cons_succ]
  have G : Gro _ _ := zJ G1 (B2.mono (by rw [← e1]; exact Nat.le_refl _))
  replace kg1 := G.has zg1
  replace kg2 := G.has zg2
  replace GG := zG.trans G
  replace H_tr := H_tr.mono (by rw [← e1]; exact zG.size)
  clear G zG HN e1 G1 B2 zg1 zg2
  refine sv 7 (pK g1 56) (jd 46 _ 8 rfl _ _ rfl _) ?_
  refine jn rfl rfl 39 _ _ rfl g1 56 rfl (.slice sl_tr f.tr.n cl_tr) rfl 46 _ kg1 #[.slice sl_tr f.tr.n cl_tr] rfl (by kernel_rfl) (nlB rfl) (by kernel_rfl) (c46 f.kind f.pw f.pn f.toA f.a f.b f.n f.fi f.fn f.ti f.tn ⟨sl_tr, f.tr.n, cl_tr⟩ f.ids f.key f.vn f.vw f.val f.op f.ttl f.tx) (by kernel_rfl) ?_
  intro w6 St
  replace kg2 := St.has (by omega) kg2
  replace H_tr := H_tr.apart St (fun ad ha => by obtain ⟨cur, hc9⟩ := H_tr.ty ha; exact jJ hc9 kg1 (by decide))
  replace GG := GG.store St bg1
  replace kg1 := St.new
  clear St
  refine wpList_nil (jc (wp_seq (wp_region_lit ?_)))
  have zg1 := kg1
  have zg2 := kg2
  have zH_tr := H_tr
  have zG := GG
  refine zC 40 23 16 (fun _ => by kernel_rfl) 8 rfl rfl rfl ?_
  intro w7 gN G1 e1 HN
  simp only [Act.put, List.setIfInBounds_toArray, List.set_cons_zero, List.set_cons_succ]
  replace kg1 := G1.has kg1
  replace kg2 := G1.has kg2
  refine sv 9 (pK g1 57) (jd 46 _ 9 rfl _ _ rfl _) (sv 10 (.slice f.ids.ao f.ids.n f.ids.cap) (jh 40 _ rfl g1 57 rfl 46 _ kg1 (na40 _) _ rfl) ?_)
  refine nr ?_; intro U h; simp only [z0, z1] at h; subst h
  refine zD iT29 11 rfl rfl _ _ rfl rfl HN rfl ((HF.ids.gro zG).gro G1) (by rw [Nat.zero_add]; exact HS.ids.out) (by decide) (by rw [← e1]; exact G1.size) ?_
  intro sl_ids cl_ids w8 H_ids B2
  rw [Nat.zero_add] at H_ids ⊢
  rw [List.nil_append] at H_ids
  simp only [Act.put, List.setIfInBounds_toArray, List.set_cons_zero, List.set_cons_succ]
  have G : Gro _ _ := zJ G1 (B2.mono (by rw [← e1]; exact Nat.le_refl _))
  replace kg1 := G.has zg1
  replace kg2 := G.has zg2
  replace H_tr := zH_tr.gro G
  replace GG := zG.trans G
  replace H_ids := H_ids.mono (by rw [← e1]; exact zG.size)
  clear G zG HN e1 G1 B2 zg1 zg2 zH_tr
  refine sv 12 (pK g1 57) (jd 46 _ 9 rfl _ _ rfl _) ?_
  refine jn rfl rfl 40 _ _ rfl g1 57 rfl (.slice sl_ids f.ids.n cl_ids) rfl 46 _ kg1 #[.slice sl_ids f.ids.n cl_ids] rfl (by kernel_rfl) (nlB rfl) (by kernel_rfl) (c46 f.kind f.pw f.pn f.toA f.a f.b f.n f.fi f.fn f.ti f.tn ⟨sl_tr, f.tr.n, cl_tr⟩ ⟨sl_ids, f.ids.n, cl_ids⟩ f.key f.vn f.vw f.val f.op f.ttl f.tx) (by kernel_rfl) ?_
  intro w10 St
  replace kg2 := St.has (by omega) kg2
  replace H_tr := H_tr.apart St (fun ad ha => by obtain ⟨cur, hc9⟩ := H_tr.ty ha; exact jJ hc9 kg1 (by decide))
  replace H_ids := H_ids.apart St (fun ad ha => by obtain ⟨cur, hc9⟩ := H_ids.ty ha; exact jJ hc9 kg1 (by decide))
  replace GG := GG.store St bg1
  replace kg1 := St.new
  clear St
  refine wpList_nil (jc (wp_seq (wp_region_lit ?_)))
  have zg1 := kg1
  have zg2 := kg2
  have zH_tr := H_tr
  have zH_ids := H_ids
  have zG := GG
  refine zC 36 5 1 (fun _ => by kernel_rfl) 13 rfl rfl rfl ?_
  intro w11 gN G1 e1 HN
  simp only [Act.put, List.setIfInBounds_toArray, List.set_cons_zero, List.set_cons_succ]
  replace kg1 := G1.has kg1
  replace kg2 := G1.has kg2
  refine sv 14 (pK g1 94) (jd 46 _ 13 rfl _ _ rfl _) (sv 15 (.slice f.tx.ao f.tx.n f.tx.cap) (jh 36 _ rfl g1 94 rfl 46 _ kg1 (na36 _) _ rfl) ?_)
  refine nr ?_; intro U h; simp only [z0, z1] at h; subst h
  refine zD bX 16 rfl rfl _ _ rfl rfl HN rfl ((HF.tx.gro zG).gro G1) (by rw [Nat.zero_add]; exact HS.tx.out) (by decide) (by rw [← e1]; exact G1.size) ?_
  intro sl_tx cl_tx w12 H_tx B2
  rw [Nat.zero_add] at H_tx ⊢
  rw [List.nil_append] at H_tx
  simp only [Act.put, List.setIfInBounds_toArray, List.set_cons_zero, List.set_cons_succ]
  have G : Gro _ _ := zJ G1 (B2.mono (by rw [← e1]; exact Nat.le_refl _))
  replace kg1 := G.has zg1
  replace kg2 := G.has zg2
  replace H_tr := zH_tr.gro G
  replace H_ids := zH_ids.gro G
  replace GG := zG.trans G
  replace H_tx := H_tx.mono (by rw [← e1]; exact zG.size)
  clear G zG HN e1 G1 B2 zg1 zg2 zH_tr zH_ids
  refine sv 17 (pK g1 94) (jd 46 _ 13 rfl _ _ rfl _) ?_
  refine jn rfl rfl 36 _ _ rfl g1 94 rfl (.slice sl_tx f.tx.n cl_tx) rfl 46 _ kg1 #[.slice sl_tx f.tx.n cl_tx] rfl (by kernel_rfl) (nlB rfl) (by kernel_rfl) (c46 f.kind f.pw f.pn f.toA f.a f.b f.n f.fi f.fn f.ti f.tn ⟨sl_tr, f.tr.n, cl_tr⟩ ⟨sl_ids, f.ids.n, cl_ids⟩ f.key f.vn f.vw f.val f.op f.ttl ⟨sl_tx, f.tx.n, cl_tx⟩) (by kernel_rfl) ?_
  intro w14 St
  replace kg2 := St.has (by omega) kg2
  replace H_tr := H_tr.apart St (fun ad ha => by obtain ⟨cur, hc9⟩ := H_tr.ty ha; exact jJ hc9 kg1 (by decide))
  replace H_ids := H_ids.apart St (fun ad ha => by obtain ⟨cur, hc9⟩ := H_ids.ty ha; exact jJ hc9 kg1 (by decide))
  replace H_tx := H_tx.apart St (fun ad ha => by obtain ⟨cur, hc9⟩ := H_tx.ty ha; exact jJ hc9 kg1 (by decide))
  replace GG := GG.store St bg1
  replace kg1 := St.new
  clear St
  refine wpList_nil (jc (wp_seq (wp_region_lit ?_)))
  have zg1 := kg1
  have zg2 := kg2
  have zH_tr := H_tr
  have zH_ids := H_ids
  have zH_tx := H_tx
  have zG := GG
  refine zC 36 5 1 (fun _ => by kernel_rfl) 18 rfl rfl rfl ?_
  intro w15 gN G1 e1 HN
  simp only [Act.put, List.setIfInBounds_toArray, List.set_cons_zero, List.set_cons_succ]
  replace kg1 := G1.has kg1
  replace kg2 := G1.has kg2
  refine sv 19 (pK g1 58) (jd 46 _ 10 rfl _ _ rfl _) (sv 20 (pK g1 91) (jd 44 _ 2 rfl _ _ rfl _) ?_)
  refine nr ?_; intro U h; simp only [z0, z1] at h; subst h
  refine sv 21 (.slice f.val.ao f.val.n f.val.cap) (jh 36 _ rfl g1 91 rfl 46 _ kg1 (na36 _) _ rfl) ?_
  refine nr ?_; intro U h; simp only [z0, z1] at h; subst h
  refine zD bX 22 rfl rfl _ _ rfl rfl HN rfl ((HF.val.gro zG).gro G1) (by rw [Nat.zero_add]; exact HS.val.out) (by decide) (by rw [← e1]; exact G1.size) ?_
  intro sl_val cl_val w16 H_val B2
  rw [Nat.zero_add] at H_val ⊢
  rw [List.nil_append] at H_val
  simp only [Act.put, List.setIfInBounds_toArray, List.set_cons_zero, List.set_cons_succ]
  have G : Gro _ _ := zJ G1 (B2.mono (by rw [← e1]; exact Nat.le_refl _))
  replace kg1 := G.has zg1
  replace kg2 := G.has zg2
  replace H_tr := zH_tr.gro G
  replace H_ids := zH_ids.gro G
  replace H_tx := zH_tx.gro G
  replace GG := zG.trans G
  replace H_val := H_val.mono (by rw [← e1]; exact zG.size)
  clear G zG HN e1 G1 B2 zg1 zg2 zH_tr zH_ids zH_tx
  refine sv 23 (pK g1 58) (jd 46 _ 10 rfl _ _ rfl _) (sv 24 (pK g1 91) (jd 44 _ 2 rfl _ _ rfl _) ?_)
  refine jn rfl rfl 36 _ _ rfl g1 91 rfl (.slice sl_val f.val.n cl_val) rfl 46 _ kg1 #[.slice sl_val f.val.n cl_val] rfl (by kernel_rfl) (nlB rfl) (by kernel_rfl) (c46 f.kind f.pw f.pn f.toA f.a f.b f.n f.fi f.fn f.ti f.tn ⟨sl_tr, f.tr.n, cl_tr⟩ ⟨sl_ids, f.ids.n, cl_ids⟩ f.key f.vn f.vw ⟨sl_val, f.val.n, cl_val⟩ f.op f.ttl ⟨sl_tx, f.tx.n, cl_tx⟩) (by kernel_rfl) ?_
  intro w18 St
  replace kg2 := St.has (by omega) kg2
  replace H_tr := H_tr.apart St (fun ad ha => by obtain ⟨cur, hc9⟩ := H_tr.ty ha; exact jJ hc9 kg1 (by decide))
  replace H_ids := H_ids.apart St (fun ad ha => by obtain ⟨cur, hc9⟩ := H_ids.ty ha; exact jJ hc9 kg1 (by decide))
  replace H_tx := H_tx.apart St (fun ad ha => by obtain ⟨cur, hc9⟩ := H_tx.ty ha; exact jJ hc9 kg1 (by decide))
  replace H_val := H_val.apart St (fun ad ha => by obtain ⟨cur, hc9⟩ := H_val.ty ha; exact jJ hc9 kg1 (by decide))
  replace GG := GG.store St bg1
  replace kg1 := St.new
  clear St
  refine wpList_nil (jc (wp_seq (wp_region_lit (sv 25 (.agg (c46 f.kind f.pw f.pn f.toA f.a f.b f.n f.fi f.fn f.ti f.tn ⟨sl_tr, f.tr.n, cl_tr⟩ ⟨sl_ids, f.ids.n, cl_ids⟩ f.key f.vn f.vw ⟨sl_val, f.val.n, cl_val⟩ f.op f.ttl ⟨sl_tx, f.tx.n, cl_tx⟩)) (jf 46 _ rfl g1 0 95 rfl 46 _ kg1 _ Try.underlying46 rfl si46 _) ?_))))
  refine nr ?_; intro U h; simp only [z0, z1] at h; subst h
  refine jn rfl rfl 46 _ _ rfl g2 0 rfl (.agg (c46 f.kind f.pw f.pn f.toA f.a f.b f.n f.fi f.fn f.ti f.tn ⟨sl_tr, f.tr.n, cl_tr⟩ ⟨sl_ids, f.ids.n, cl_ids⟩ f.key f.vn f.vw ⟨sl_val, f.val.n, cl_val⟩ f.op f.ttl ⟨sl_tx, f.tx.n, cl_tx⟩)) rfl 46 _ kg2 (c46 f.kind f.pw f.pn f.toA f.a f.b f.n f.fi f.fn f.ti f.tn ⟨sl_tr, f.tr.n, cl_tr⟩ ⟨sl_ids, f.ids.n, cl_ids⟩ f.key f.vn f.vw ⟨sl_val, f.val.n, cl_val⟩ f.op f.ttl ⟨sl_tx, f.tx.n, cl_tx⟩) rfl (by kernel_rfl) (nlB rfl) (by kernel_rfl) (c46 f.kind f.pw f.pn f.toA f.a f.b f.n f.fi f.fn f.ti f.tn ⟨sl_tr, f.tr.n, cl_tr⟩ ⟨sl_ids, f.ids.n, cl_ids⟩ f.key f.vn f.vw ⟨sl_val, f.val.n, cl_val⟩ f.op f.ttl ⟨sl_tx, f.tx.n, cl_tx⟩) (by kernel_rfl) ?_
  intro w20 St
  replace kg1 := St.has (by omega) kg1
  replace H_tr := H_tr.apart St (fun ad ha => by obtain ⟨cur, hc9⟩ := H_tr.ty ha; exact jJ hc9 kg2 (by decide))
  replace H_ids := H_ids.apart St (fun ad ha => by obtain ⟨cur, hc9⟩ := H_ids.ty ha; exact jJ hc9 kg2 (by decide))
  replace H_tx := H_tx.apart St (fun ad ha => by obtain ⟨cur, hc9⟩ := H_tx.ty ha; exact jJ hc9 kg2 (by decide))
  replace H_val := H_val.apart St (fun ad ha => by obtain ⟨cur, hc9⟩ := H_val.ty ha; exact jJ hc9 kg2 (by decide))
  replace GG := GG.store St bg2
  replace kg2 := St.new
  clear St
  refine wpList_nil (jc (wp_ret ?_))
  refine bodyPost_ret (results_cell_row Try.results21 _ _ g2 46 _ (0, 0) _ rfl kg2 Try.underlying46 rfl (by kernel_rfl)) rfl ?_
  exact ⟨⟨sl_tr, f.tr.n, cl_tr⟩, ⟨sl_ids, f.ids.n, cl_ids⟩, ⟨sl_val, f.val.n, cl_val⟩, ⟨sl_tx, f.tx.n, cl_tx⟩, rfl, ⟨H_tr, H_ids, H_val, H_tx, HF.oids, HF.oval, HF.otx⟩, GG⟩
section
open Go.ChangeShapes Go.WideShapes Go.ChangeAt Go.RowKit
variable {H : Type} {enc : TypeId × Value → H} {w : World} {base : Nat} {spare : Nat → Bool} {held : Bool}
theorem YW {fuel : Nat} {cs : List Value} {x : DataW H × List MemPlace} (h : DataW.trod enc Try.prog w base spare held fuel 39 cs = some x) :
    ∃ (s : Sl) (l : List Int), cs = [.slice s.ao s.n s.cap] ∧ XC w 1 s.ao s.cap s.n (l.map (Value.int .i64 ·)) ∧ ∀ m, (∀ y ∈ x.1.weights Try.prog 39, y ≤ m) → l.length * 8 ≤ m := by
  rcases open_ints Try.underlying39 Try.underlying3 ck3 h with ⟨hcs, hx⟩ | ⟨a, len, cap, zs, hcs, _, hl, hm, hz, hx, hcell, hwz⟩
  · exact ⟨Sl.nil, [], hcs, XC.nil _ _, fun m _ => by simp⟩
  · have hle : len ≤ zs.length := by rw [hz]; split <;> omega
    have hlen : (zs.take len).length = len := by simp; omega
    refine ⟨⟨some a, len, cap⟩, zs.take len, hcs, ⟨by simp; omega, hl, fun h => by (cases h), fun ad ha j v hv => ?_, fun v hv => ?_⟩, fun m hm2 => ?_⟩
    · cases ha
      rw [List.getElem?_map] at hv
      have hj : j < len := by
        cases hq : decide (j < len)
        · rw [List.getElem?_eq_none (by have := of_decide_eq_false hq; omega)] at hv
          cases hv
        · exact of_decide_eq_true hq
      rw [List.getElem?_take, if_pos hj, List.getElem?_eq_getElem (by omega)] at hv
      rw [hcell j (by omega), List.getD_eq_getElem?_getD, List.getElem?_eq_getElem (by omega)]
      simpa using hv
    · obtain ⟨z, _, rfl⟩ := List.mem_map.1 hv
      rfl
    · have := hm2 (((lits .i64 (zs.take len)).length + (lits .i64 (zs.drop len)).length) * Try.prog.bytesOf 3) (by
        rw [hx, DataW.weights, Try.underlying39]
        exact List.mem_cons_self)
      rw [bk3] at this
      have h2 : (lits (H := H) .i64 (zs.take len)).length = len := by simp [lits]; omega
      rw [h2] at this
      rw [hlen]
      omega
theorem vF {fuel : Nat} {cs : List Value} {x : DataW H × List MemPlace} (h : DataW.trod enc Try.prog w base spare held fuel 36 cs = some x) :
    ∃ (s : Sl) (l : List Nat), cs = [.slice s.ao s.n s.cap] ∧ XC w 1 s.ao s.cap s.n (bL l) ∧ (∀ y ∈ l, y < 256) ∧ ∀ m, (∀ y ∈ x.1.weights Try.prog 36, y ≤ m) → l.length ≤ m := by
  obtain ⟨ao, cap, l, e, nc, _, ha⟩ := Yk bT cells5 rfl h
  refine ⟨⟨ao, l.length, cap⟩, l, e, nc.xc, nc.lt256, fun m hm => ?_⟩
  rcases ha with ⟨_, rfl⟩ | ⟨el, sp, hd, hl⟩
  · simp
  · have := hm ((el.length + sp.length) * Try.prog.bytesOf 5) (by
      rw [hd, DataW.weights, Try.underlying36]
      exact List.mem_cons_self)
    rw [bytes5] at this
    omega
theorem Yv {fuel : Nat} {cs : List Value} {x : DataW H × List MemPlace} (h : DataW.trod enc Try.prog w base spare held fuel 40 cs = some x) :
    ∃ (s : Sl) (l : List (List Nat)), cs = [.slice s.ao s.n s.cap] ∧ XC w 16 s.ao s.cap s.n (cellsI l) ∧ ok16 l ∧ ∀ m, (∀ y ∈ x.1.weights Try.prog 40, y ≤ m) → l.length * 16 ≤ m := by
  rcases DataW.trod_slice Try.underlying40 h with ⟨hcs, hx⟩ | ⟨a, len, cap, elems, rest, n, _, hcs, hx, _, hl, _, hel, hei, _, _⟩
  · exact ⟨Sl.nil, [], hcs, XC.nil _ _, fun x hx => by (cases hx), fun m _ => by simp⟩
  · rw [cells23] at hei
    have each : ∀ i, ∃ y : Nat → Nat, i < len → okI y ∧ ∀ r, r < 16 → w.cell? (a.add (i * 16 + r)) = (bL (idL y))[r]? := by
      intro i
      by_cases hi : i < len
      · have h1 := hei i hi
        rw [List.getElem?_eq_getElem (by omega)] at h1
        cases hc : w.cells? base (a.add (i * 16)) 16 with
        | none => rw [hc] at h1; cases h1
        | some cs2 =>
          rw [hc] at h1
          obtain ⟨y, e, hy⟩ := yE (show DataW.trod enc Try.prog w base spare held n 23 cs2 = some elems[i] from h1)
          refine ⟨y, fun _ => ⟨hy, fun r hr => ?_⟩⟩
          have := (World.cells?_some hc).2.2 r hr
          rw [yZ, e] at this
          exact this
      · exact ⟨fun _ => 0, fun h => absurd h hi⟩
    obtain ⟨F, hF⟩ := Classical.axiomOfChoice each
    have hlen : ((List.range len).map fun i => idL (F i)).length = len := by simp
    have hok : ok16 ((List.range len).map fun i => idL (F i)) := fun x hx => by
      obtain ⟨i, hi, rfl⟩ := List.mem_map.1 hx
      exact ⟨idL_len _, idL_lt (hF i (List.mem_range.1 hi)).1⟩
    refine ⟨⟨some a, len, cap⟩, (List.range len).map fun i => idL (F i), hcs, ⟨?_, hl, fun h => by (cases h), fun ad ha j v hv => ?_, fun v hv => ?_⟩, hok, fun m hm => ?_⟩
    · rw [yJ hok, hlen]
    · cases ha
      have hj : j < len * 16 := by
        have := (List.getElem?_eq_some_iff.1 hv).1
        rwa [yJ hok, hlen] at this
      have h3 := yC _ (j / 16) hok (by rw [hlen]; omega)
      have h4 : ((List.range len).map fun i => idL (F i)).getD (j / 16) [] = idL (F (j / 16)) := by
        simp [List.getD_eq_getElem?_getD, show j / 16 < len by omega]
      rw [h4] at h3
      have h5 := (hF (j / 16) (by omega)).2 (j % 16) (Nat.mod_lt _ (by decide))
      rw [← h3, List.getElem?_take, if_pos (Nat.mod_lt _ (by decide)), List.getElem?_drop, show j / 16 * 16 + j % 16 = j by omega, hv] at h5
      exact h5
    · obtain ⟨x, _, hx2⟩ := List.mem_flatMap.1 hv
      obtain ⟨r, _, rfl⟩ := List.mem_map.1 hx2
      rfl
    · have hd2 : x.1 = .slice (elems.map (·.1)) (rest.map (·.1)) := congrArg Prod.fst hx
      have := hm ((elems.length + rest.length) * Try.prog.bytesOf 23) (by
        rw [hd2, DataW.weights, Try.underlying40]
        simp)
      rw [bk23] at this
      rw [hlen]
      omega
theorem Jo {fuel : Nat} {cs : List Value} {x : DataW H × List MemPlace} (h : DataW.trod enc Try.prog w base spare held fuel 46 cs = some x) :
    ∃ (f : Fr) (d : FD), cs = (frA f).toList ∧ FrW w f d ∧ FrR f ∧ ∀ m, (∀ y ∈ x.1.weights Try.prog 46, y ≤ m) → d.tr.length * 8 ≤ m ∧ d.ids.length * 16 ≤ m ∧ d.val.length ≤ m ∧ d.tx.length ≤ m := by
  obtain ⟨xs, n, _, hx, hl, hxl, hf⟩ := DataW.trod_struct Try.underlying46 h
  have hxl : xs.length = 14 := hxl
  rw [ck36] at hl
  obtain ⟨x0, hx0⟩ : ∃ y, xs[0]? = some y := ⟨_, List.getElem?_eq_getElem (by omega)⟩
  have g0 : DataW.trod enc Try.prog w base spare held n 3 ((cs.drop 0).take (Try.prog.cellsOf 3)) = some x0 := by rw [← hx0]; exact hf 0 _ rfl
  rw [ck3] at g0
  obtain ⟨x1, hx1⟩ : ∃ y, xs[1]? = some y := ⟨_, List.getElem?_eq_getElem (by omega)⟩
  have g1 : DataW.trod enc Try.prog w base spare held n 38 ((cs.drop 1).take (Try.prog.cellsOf 38)) = some x1 := by rw [← hx1]; exact hf 1 _ rfl
  rw [ck25] at g1
  obtain ⟨x2, hx2⟩ : ∃ y, xs[2]? = some y := ⟨_, List.getElem?_eq_getElem (by omega)⟩
  have g2 : DataW.trod enc Try.prog w base spare held n 4 ((cs.drop 18).take (Try.prog.cellsOf 4)) = some x2 := by rw [← hx2]; exact hf 2 _ rfl
  rw [ck4] at g2
  obtain ⟨x3, hx3⟩ : ∃ y, xs[3]? = some y := ⟨_, List.getElem?_eq_getElem (by omega)⟩
  have g3 : DataW.trod enc Try.prog w base spare held n 23 ((cs.drop 19).take (Try.prog.cellsOf 23)) = some x3 := by rw [← hx3]; exact hf 3 _ rfl
  rw [cells23] at g3
  obtain ⟨x4, hx4⟩ : ∃ y, xs[4]? = some y := ⟨_, List.getElem?_eq_getElem (by omega)⟩
  have g4 : DataW.trod enc Try.prog w base spare held n 23 ((cs.drop 35).take (Try.prog.cellsOf 23)) = some x4 := by rw [← hx4]; exact hf 4 _ rfl
  rw [cells23] at g4
  obtain ⟨x5, hx5⟩ : ∃ y, xs[5]? = some y := ⟨_, List.getElem?_eq_getElem (by omega)⟩
  have g5 : DataW.trod enc Try.prog w base spare held n 2 ((cs.drop 51).take (Try.prog.cellsOf 2)) = some x5 := by rw [← hx5]; exact hf 5 _ rfl
  rw [ck2] at g5
  obtain ⟨x6, hx6⟩ : ∃ y, xs[6]? = some y := ⟨_, List.getElem?_eq_getElem (by omega)⟩
  have g6 : DataW.trod enc Try.prog w base spare held n 29 ((cs.drop 52).take (Try.prog.cellsOf 29)) = some x6 := by rw [← hx6]; exact hf 6 _ rfl
  rw [ck27] at g6
  obtain ⟨x7, hx7⟩ : ∃ y, xs[7]? = some y := ⟨_, List.getElem?_eq_getElem (by omega)⟩
  have g7 : DataW.trod enc Try.prog w base spare held n 29 ((cs.drop 54).take (Try.prog.cellsOf 29)) = some x7 := by rw [← hx7]; exact hf 7 _ rfl
  rw [ck27] at g7
  obtain ⟨x8, hx8⟩ : ∃ y, xs[8]? = some y := ⟨_, List.getElem?_eq_getElem (by omega)⟩
  have g8 : DataW.trod enc Try.prog w base spare held n 39 ((cs.drop 56).take (Try.prog.cellsOf 39)) = some x8 := by rw [← hx8]; exact hf 8 _ rfl
  rw [ck28] at g8
  obtain ⟨x9, hx9⟩ : ∃ y, xs[9]? = some y := ⟨_, List.getElem?_eq_getElem (by omega)⟩
  have g9 : DataW.trod enc Try.prog w base spare held n 40 ((cs.drop 57).take (Try.prog.cellsOf 40)) = some x9 := by rw [← hx9]; exact hf 9 _ rfl
  rw [ck29] at g9
  obtain ⟨x10, hx10⟩ : ∃ y, xs[10]? = some y := ⟨_, List.getElem?_eq_getElem (by omega)⟩
  have g10 : DataW.trod enc Try.prog w base spare held n 44 ((cs.drop 58).take (Try.prog.cellsOf 44)) = some x10 := by rw [← hx10]; exact hf 10 _ rfl
  rw [ck34] at g10
  obtain ⟨x11, hx11⟩ : ∃ y, xs[11]? = some y := ⟨_, List.getElem?_eq_getElem (by omega)⟩
  have g11 : DataW.trod enc Try.prog w base spare held n 3 ((cs.drop 92).take (Try.prog.cellsOf 3)) = some x11 := by rw [← hx11]; exact hf 11 _ rfl
  rw [ck3] at g11
  obtain ⟨x12, hx12⟩ : ∃ y, xs[12]? = some y := ⟨_, List.getElem?_eq_getElem (by omega)⟩
  have g12 : DataW.trod enc Try.prog w base spare held n 3 ((cs.drop 93).take (Try.prog.cellsOf 3)) = some x12 := by rw [← hx12]; exact hf 12 _ rfl
  rw [ck3] at g12
  obtain ⟨x13, hx13⟩ : ∃ y, xs[13]? = some y := ⟨_, List.getElem?_eq_getElem (by omega)⟩
  have g13 : DataW.trod enc Try.prog w base spare held n 36 ((cs.drop 94).take (Try.prog.cellsOf 36)) = some x13 := by rw [← hx13]; exact hf 13 _ rfl
  rw [ck32] at g13
  obtain ⟨zkind, qkind, bkind⟩ := zM Try.underlying3 g0
  obtain ⟨xs1_, n1_, _, _, _, hxl1_, hf1_⟩ := DataW.trod_struct Try.underlying38 g1
  have hxl1_ : xs1_.length = 2 := hxl1_
  obtain ⟨x1_0, hx1_0⟩ : ∃ y, xs1_[0]? = some y := ⟨_, List.getElem?_eq_getElem (by omega)⟩
  have g1_0 : DataW.trod enc Try.prog w base spare held n1_ 23 ((((cs.drop 1).take 17).drop 0).take (Try.prog.cellsOf 23)) = some x1_0 := by rw [← hx1_0]; exact hf1_ 0 _ rfl
  rw [cells23, subSeg _ _ _ _ _ (by decide)] at g1_0
  obtain ⟨x1_1, hx1_1⟩ : ∃ y, xs1_[1]? = some y := ⟨_, List.getElem?_eq_getElem (by omega)⟩
  have g1_1 : DataW.trod enc Try.prog w base spare held n1_ 2 ((((cs.drop 1).take 17).drop 16).take (Try.prog.cellsOf 2)) = some x1_1 := by rw [← hx1_1]; exact hf1_ 1 _ rfl
  rw [ck2, subSeg _ _ _ _ _ (by decide)] at g1_1
  obtain ⟨zpw, qpw, bpw⟩ := yE g1_0
  obtain ⟨zpn, qpn, bpn⟩ := zM Try.underlying2 g1_1
  obtain ⟨ztoA, qtoA, _⟩ := DataW.trod_bool Try.underlying4 g2
  obtain ⟨za, qa, ba⟩ := yE g3
  obtain ⟨zb, qb, bb⟩ := yE g4
  obtain ⟨zn, qn, bn⟩ := zM Try.underlying2 g5
  obtain ⟨xs6_, n6_, _, _, _, hxl6_, hf6_⟩ := DataW.trod_struct Try.underlying29 g6
  have hxl6_ : xs6_.length = 2 := hxl6_
  obtain ⟨x6_0, hx6_0⟩ : ∃ y, xs6_[0]? = some y := ⟨_, List.getElem?_eq_getElem (by omega)⟩
  have g6_0 : DataW.trod enc Try.prog w base spare held n6_ 2 ((((cs.drop 52).take 2).drop 0).take (Try.prog.cellsOf 2)) = some x6_0 := by rw [← hx6_0]; exact hf6_ 0 _ rfl
  rw [ck2, subSeg _ _ _ _ _ (by decide)] at g6_0
  obtain ⟨x6_1, hx6_1⟩ : ∃ y, xs6_[1]? = some y := ⟨_, List.getElem?_eq_getElem (by omega)⟩
  have g6_1 : DataW.trod enc Try.prog w base spare held n6_ 2 ((((cs.drop 52).take 2).drop 1).take (Try.prog.cellsOf 2)) = some x6_1 := by rw [← hx6_1]; exact hf6_ 1 _ rfl
  rw [ck2, subSeg _ _ _ _ _ (by decide)] at g6_1
  obtain ⟨zfi, qfi, bfi⟩ := zM Try.underlying2 g6_0
  obtain ⟨zfn, qfn, bfn⟩ := zM Try.underlying2 g6_1
  obtain ⟨xs7_, n7_, _, _, _, hxl7_, hf7_⟩ := DataW.trod_struct Try.underlying29 g7
  have hxl7_ : xs7_.length = 2 := hxl7_
  obtain ⟨x7_0, hx7_0⟩ : ∃ y, xs7_[0]? = some y := ⟨_, List.getElem?_eq_getElem (by omega)⟩
  have g7_0 : DataW.trod enc Try.prog w base spare held n7_ 2 ((((cs.drop 54).take 2).drop 0).take (Try.prog.cellsOf 2)) = some x7_0 := by rw [← hx7_0]; exact hf7_ 0 _ rfl
  rw [ck2, subSeg _ _ _ _ _ (by decide)] at g7_0
  obtain ⟨x7_1, hx7_1⟩ : ∃ y, xs7_[1]? = some y := ⟨_, List.getElem?_eq_getElem (by omega)⟩
  have g7_1 : DataW.trod enc Try.prog w base spare held n7_ 2 ((((cs.drop 54).take 2).drop 1).take (Try.prog.cellsOf 2)) = some x7_1 := by rw [← hx7_1]; exact hf7_ 1 _ rfl
  rw [ck2, subSeg _ _ _ _ _ (by decide)] at g7_1
  obtain ⟨zti, qti, bti⟩ := zM Try.underlying2 g7_0
  obtain ⟨ztn, qtn, btn⟩ := zM Try.underlying2 g7_1
  obtain ⟨str, ltr, qtr, xtr, wtr⟩ := YW g8
  obtain ⟨sids, lids, qids, xids, oids, wids⟩ := Yv g9
  obtain ⟨xs10_, n10_, _, hx10s, _, hxl10_, hf10_⟩ := DataW.trod_struct Try.underlying44 g10
  have hxl10_ : xs10_.length = 3 := hxl10_
  obtain ⟨x10_0, hx10_0⟩ : ∃ y, xs10_[0]? = some y := ⟨_, List.getElem?_eq_getElem (by omega)⟩
  have g10_0 : DataW.trod enc Try.prog w base spare held n10_ 23 ((((cs.drop 58).take 34).drop 0).take (Try.prog.cellsOf 23)) = some x10_0 := by rw [← hx10_0]; exact hf10_ 0 _ rfl
  rw [cells23, subSeg _ _ _ _ _ (by decide)] at g10_0
  obtain ⟨x10_1, hx10_1⟩ : ∃ y, xs10_[1]? = some y := ⟨_, List.getElem?_eq_getElem (by omega)⟩
  have g10_1 : DataW.trod enc Try.prog w base spare held n10_ 42 ((((cs.drop 58).take 34).drop 16).take (Try.prog.cellsOf 42)) = some x10_1 := by rw [← hx10_1]; exact hf10_ 1 _ rfl
  rw [ck31, subSeg _ _ _ _ _ (by decide)] at g10_1
  obtain ⟨x10_2, hx10_2⟩ : ∃ y, xs10_[2]? = some y := ⟨_, List.getElem?_eq_getElem (by omega)⟩
  have g10_2 : DataW.trod enc Try.prog w base spare held n10_ 36 ((((cs.drop 58).take 34).drop 33).take (Try.prog.cellsOf 36)) = some x10_2 := by rw [← hx10_2]; exact hf10_ 2 _ rfl
  rw [ck32, subSeg _ _ _ _ _ (by decide)] at g10_2
  obtain ⟨zkey, qkey, bkey⟩ := yE g10_0
  obtain ⟨xs10_1_, n10_1_, _, _, _, hxl10_1_, hf10_1_⟩ := DataW.trod_struct Try.underlying42 g10_1
  have hxl10_1_ : xs10_1_.length = 2 := hxl10_1_
  obtain ⟨x10_1_0, hx10_1_0⟩ : ∃ y, xs10_1_[0]? = some y := ⟨_, List.getElem?_eq_getElem (by omega)⟩
  have g10_1_0 : DataW.trod enc Try.prog w base spare held n10_1_ 2 ((((cs.drop (58 + 16)).take 17).drop 0).take (Try.prog.cellsOf 2)) = some x10_1_0 := by rw [← hx10_1_0]; exact hf10_1_ 0 _ rfl
  rw [ck2, subSeg _ _ _ _ _ (by decide)] at g10_1_0
  obtain ⟨x10_1_1, hx10_1_1⟩ : ∃ y, xs10_1_[1]? = some y := ⟨_, List.getElem?_eq_getElem (by omega)⟩
  have g10_1_1 : DataW.trod enc Try.prog w base spare held n10_1_ 23 ((((cs.drop (58 + 16)).take 17).drop 1).take (Try.prog.cellsOf 23)) = some x10_1_1 := by rw [← hx10_1_1]; exact hf10_1_ 1 _ rfl
  rw [cells23, subSeg _ _ _ _ _ (by decide)] at g10_1_1
  obtain ⟨zvn, qvn, bvn⟩ := zM Try.underlying2 g10_1_0
  obtain ⟨zvw, qvw, bvw⟩ := yE g10_1_1
  obtain ⟨sval, lval, qval, xval, oval, wval⟩ := vF g10_2
  obtain ⟨zop, qop, bop⟩ := zM Try.underlying3 g11
  obtain ⟨zttl, qttl, bttl⟩ := zM Try.underlying3 g12
  obtain ⟨stx, ltx, qtx, xtx, otx, wtx⟩ := vF g13
  refine ⟨⟨zkind, zpw, zpn, ztoA, za, zb, zn, zfi, zfn, zti, ztn, str, sids, zkey, zvn, zvw, sval, zop, zttl, stx⟩, ⟨ltr, lids, lval, ltx⟩, ?_, ⟨xtr, xids, xval, xtx, oids, oval, otx⟩, ⟨bpw, ba, bb, bkey, bvw, bpn, bn, bfi, bfn, bti, btn, bvn, bop, bttl⟩, fun m hm => ⟨wtr m fun y hy => hm y ?_, wids m fun y hy => hm y ?_, wval m fun y hy => hm y ?_, wtx m fun y hy => hm y ?_⟩⟩
  · have e0 : cs = cs.drop 0 := rfl
    have s_kind : cs.drop 0 = [iK zkind] ++ cs.drop 1 := nextSeg qkind rfl
    have s_pw : cs.drop 1 = bL (idL zpw) ++ cs.drop 17 := nextSeg qpw rfl
    have s_pn : cs.drop 17 = [iK zpn] ++ cs.drop 18 := nextSeg qpn rfl
    have s_toA : cs.drop 18 = [.bool ztoA] ++ cs.drop 19 := nextSeg qtoA rfl
    have s_a : cs.drop 19 = bL (idL za) ++ cs.drop 35 := nextSeg qa rfl
    have s_b : cs.drop 35 = bL (idL zb) ++ cs.drop 51 := nextSeg qb rfl
    have s_n : cs.drop 51 = [iK zn] ++ cs.drop 52 := nextSeg qn rfl
    have s_fi : cs.drop 52 = [iK zfi] ++ cs.drop 53 := nextSeg qfi rfl
    have s_fn : cs.drop 53 = [iK zfn] ++ cs.drop 54 := nextSeg qfn rfl
    have s_ti : cs.drop 54 = [iK zti] ++ cs.drop 55 := nextSeg qti rfl
    have s_tn : cs.drop 55 = [iK ztn] ++ cs.drop 56 := nextSeg qtn rfl
    have s_tr : cs.drop 56 = [.slice str.ao str.n str.cap] ++ cs.drop 57 := nextSeg qtr rfl
    have s_ids : cs.drop 57 = [.slice sids.ao sids.n sids.cap] ++ cs.drop 58 := nextSeg qids rfl
    have s_key : cs.drop 58 = bL (idL zkey) ++ cs.drop 74 := nextSeg qkey rfl
    have s_vn : cs.drop 74 = [iK zvn] ++ cs.drop 75 := nextSeg qvn rfl
    have s_vw : cs.drop 75 = bL (idL zvw) ++ cs.drop 91 := nextSeg qvw rfl
    have jx : cs.drop 91 = [.slice sval.ao sval.n sval.cap] ++ cs.drop 92 := nextSeg qval rfl
    have s_op : cs.drop 92 = [iK zop] ++ cs.drop 93 := nextSeg qop rfl
    have s_ttl : cs.drop 93 = [iK zttl] ++ cs.drop 94 := nextSeg qttl rfl
    have s_tx : cs.drop 94 = [.slice stx.ao stx.n stx.cap] ++ cs.drop 95 := nextSeg qtx rfl
    have s_end : cs.drop 95 = [] := List.drop_of_length_le (by omega)
    rw [e0, s_kind, s_pw, s_pn, s_toA, s_a, s_b, s_n, s_fi, s_fn, s_ti, s_tn, s_tr, s_ids, s_key, s_vn, s_vw, jx, s_op, s_ttl, s_tx, s_end]
    rfl
  · rw [hx]
    show _ ∈ DataW.weights Try.prog 46 (.agg (xs.map (·.1)))
    rw [DataW.weights, Try.underlying46]
    exact DataW.weights_mem_each (j := 8) (t := 39) (d := x8.1) rfl (by rw [List.getElem?_map, hx8]; rfl) _ hy
  · rw [hx]
    show _ ∈ DataW.weights Try.prog 46 (.agg (xs.map (·.1)))
    rw [DataW.weights, Try.underlying46]
    exact DataW.weights_mem_each (j := 9) (t := 40) (d := x9.1) rfl (by rw [List.getElem?_map, hx9]; rfl) _ hy
  · rw [hx]
    show _ ∈ DataW.weights Try.prog 46 (.agg (xs.map (·.1)))
    rw [DataW.weights, Try.underlying46]
    refine DataW.weights_mem_each (j := 10) (t := 44) (d := x10.1) rfl (by rw [List.getElem?_map, hx10]; rfl) _ ?_
    rw [hx10s]
    show _ ∈ DataW.weights Try.prog 44 (.agg (xs10_.map (·.1)))
    rw [DataW.weights, Try.underlying44]
    exact DataW.weights_mem_each (j := 2) (t := 36) (d := x10_2.1) rfl (by rw [List.getElem?_map, hx10_2]; rfl) _ hy
  · rw [hx]
    show _ ∈ DataW.weights Try.prog 46 (.agg (xs.map (·.1)))
    rw [DataW.weights, Try.underlying46]
    exact DataW.weights_mem_each (j := 13) (t := 36) (d := x13.1) rfl (by rw [List.getElem?_map, hx13]; rfl) _ hy
end
end Go.Proofs.Ytlfanecaglbomaa
