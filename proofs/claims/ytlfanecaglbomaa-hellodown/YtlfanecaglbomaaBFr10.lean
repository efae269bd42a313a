/- Arguments: an identity, a call of a script with its frame, a script. -/
import Derived.Test.YtlfanecaglbomaaBH1
import Derived.Test.YtlfanecaglbomaaBFr5
namespace Go.Proofs.Ytlfanecaglbomaa
open Go.ChangeShapes Go.WideShapes Go.ChangeAt Go.RowKit
/-- A call of a script. -/
structure OpH where
  kd : Int
  ni : Int
  nn : Int
  ao : Option Addr
  cap : Nat
  l : List Nat
  f : Fr
  d : FD
def opA (o : OpH) : Array Value := c48 o.kd o.ni o.nn ⟨o.ao, o.l.length, o.cap⟩ o.f.kind o.f.pw o.f.pn o.f.toA o.f.a o.f.b o.f.n o.f.fi o.f.fn o.f.ti o.f.tn o.f.tr o.f.ids o.f.key o.f.vn o.f.vw o.f.val o.f.op o.f.ttl o.f.tx
def opH (o : OpH) : List Value := (opA o).toList
theorem opH_cat (o : OpH) : opH o = [.int .i64 o.kd, .int .i64 o.ni, .int .i64 o.nn, .slice o.ao o.l.length o.cap] ++ (frA o.f).toList := by kernel_rfl
theorem cells48 : Try.prog.cellsOf 48 = 99 := by kernel_rfl
theorem cells46 : Try.prog.cellsOf 46 = 95 := by kernel_rfl
theorem cells29 : Try.prog.cellsOf 29 = 2 := by kernel_rfl
/-- What is known of a call of a script. -/
structure OpW (w : World) (o : OpH) : Prop where
  nc : NC w .u8 o.ao o.cap o.l
  fw : FrW w o.f o.d
  fr : FrR o.f
/-- How great it can be. -/
def OpS (o : OpH) (m : Nat) : Prop := o.l.length ≤ m ∧ o.d.tr.length * 8 ≤ m ∧ o.d.ids.length * 16 ≤ m ∧ o.d.val.length ≤ m ∧ o.d.tx.length ≤ m
section
variable {H : Type} {enc : TypeId × Value → H} {w : World} {base : Nat} {spare : Nat → Bool} {held : Bool}
set_option maxRecDepth 100000 in
theorem open_idF {r : Reach} {b0 : Nat} {v : Value} {d : DataW H} {ps : List MemPlace} (hval : Value.okWide Try.prog w r b0 23 v) (hd : DataW.Trod enc Try.prog w base spare held 23 v d ps) : ∃ y : Nat → Nat, v = .agg (c23 y) ∧ okI y := by
  have hu := Try.underlying23
  simp only [Value.okWide, hu] at hval
  obtain ⟨cs, rfl, _, _⟩ := hval
  obtain ⟨fuel, hf⟩ := hd
  obtain ⟨y, h1, h2⟩ := id_seg hf
  refine ⟨y, ?_, h2⟩
  have e : cs.toList = (c23 y).toList := h1
  rw [Array.toList_inj.1 e]
set_option maxRecDepth 100000 in
theorem opH_of_trod {fuel : Nat} {cs : List Value} {x : DataW H × List MemPlace} (h : DataW.trod enc Try.prog w base spare held fuel 48 cs = some x) :
    ∃ o : OpH, cs = opH o ∧ OpW w o ∧ ∀ m, (∀ y ∈ x.1.weights Try.prog 48, y ≤ m) → OpS o m := by
  obtain ⟨xs, n, _, hx, hl, hxl, hf⟩ := DataW.trod_struct Try.underlying48 h
  have hxl : xs.length = 4 := hxl
  rw [cells48] at hl
  obtain ⟨x0, hx0⟩ : ∃ y, xs[0]? = some y := ⟨_, List.getElem?_eq_getElem (by omega)⟩
  have g0 : DataW.trod enc Try.prog w base spare held n 3 ((cs.drop 0).take (Try.prog.cellsOf 3)) = some x0 := by rw [← hx0]; exact hf 0 _ rfl
  rw [ck3] at g0
  obtain ⟨x1, hx1⟩ : ∃ y, xs[1]? = some y := ⟨_, List.getElem?_eq_getElem (by omega)⟩
  have g1 : DataW.trod enc Try.prog w base spare held n 29 ((cs.drop 1).take (Try.prog.cellsOf 29)) = some x1 := by rw [← hx1]; exact hf 1 _ rfl
  rw [cells29] at g1
  obtain ⟨x2, hx2⟩ : ∃ y, xs[2]? = some y := ⟨_, List.getElem?_eq_getElem (by omega)⟩
  have g2 : DataW.trod enc Try.prog w base spare held n 36 ((cs.drop 3).take (Try.prog.cellsOf 36)) = some x2 := by rw [← hx2]; exact hf 2 _ rfl
  rw [ck32] at g2
  obtain ⟨x3, hx3⟩ : ∃ y, xs[3]? = some y := ⟨_, List.getElem?_eq_getElem (by omega)⟩
  have g3 : DataW.trod enc Try.prog w base spare held n 46 ((cs.drop 4).take (Try.prog.cellsOf 46)) = some x3 := by rw [← hx3]; exact hf 3 _ rfl
  rw [cells46] at g3
  obtain ⟨zkd, qkd, _⟩ := int_seg Try.underlying3 g0
  obtain ⟨ys, n1, _, _, _, hyl, hg⟩ := DataW.trod_struct Try.underlying29 g1
  have hyl : ys.length = 2 := hyl
  obtain ⟨y0, hy0⟩ : ∃ y, ys[0]? = some y := ⟨_, List.getElem?_eq_getElem (by omega)⟩
  have k0 : DataW.trod enc Try.prog w base spare held n1 2 ((((cs.drop 1).take 2).drop 0).take (Try.prog.cellsOf 2)) = some y0 := by rw [← hy0]; exact hg 0 _ rfl
  rw [ck2, subSeg _ _ _ _ _ (by decide)] at k0
  obtain ⟨y1, hy1⟩ : ∃ y, ys[1]? = some y := ⟨_, List.getElem?_eq_getElem (by omega)⟩
  have k1 : DataW.trod enc Try.prog w base spare held n1 2 ((((cs.drop 1).take 2).drop 1).take (Try.prog.cellsOf 2)) = some y1 := by rw [← hy1]; exact hg 1 _ rfl
  rw [ck2, subSeg _ _ _ _ _ (by decide)] at k1
  obtain ⟨zni, qni, _⟩ := int_seg Try.underlying2 k0
  obtain ⟨znn, qnn, _⟩ := int_seg Try.underlying2 k1
  obtain ⟨st, lt, qt, xt, ot, wt⟩ := row_seg8 g2
  obtain ⟨f, d, qf, fw, fr, wf⟩ := fr_of_trod8 g3
  have en := xc_len1 (g := fun r : Nat => Value.int .u8 (r : Int)) xt
  obtain ⟨ao, nt, cap⟩ := st
  simp only at en
  subst en
  refine ⟨⟨zkd, zni, znn, ao, cap, lt, f, d⟩, ?_, ⟨xc_nc xt ot, fw, fr⟩, fun m hm => ⟨wt m fun y hy => hm y ?_, wf m fun y hy => hm y ?_⟩⟩
  · have e0 : cs = cs.drop 0 := rfl
    have s0 : cs.drop 0 = [.int .i64 zkd] ++ cs.drop 1 := nextSeg qkd rfl
    have s1 : cs.drop 1 = [.int .i64 zni] ++ cs.drop 2 := nextSeg qni rfl
    have s2 : cs.drop 2 = [.int .i64 znn] ++ cs.drop 3 := nextSeg qnn rfl
    have s3 : cs.drop 3 = [.slice ao lt.length cap] ++ cs.drop 4 := nextSeg qt rfl
    have s4 : cs.drop 4 = (frA f).toList ++ cs.drop 99 := nextSeg qf rfl
    have s5 : cs.drop 99 = [] := List.drop_of_length_le (by omega)
    rw [opH_cat, e0, s0, s1, s2, s3, s4, s5]
    simp
  · rw [hx]
    show _ ∈ DataW.weights Try.prog 48 (.agg (xs.map (·.1)))
    rw [DataW.weights, Try.underlying48]
    exact DataW.weights_mem_each (j := 2) (t := 36) (d := x2.1) rfl (by rw [List.getElem?_map, hx2]; rfl) _ hy
  · rw [hx]
    show _ ∈ DataW.weights Try.prog 48 (.agg (xs.map (·.1)))
    rw [DataW.weights, Try.underlying48]
    exact DataW.weights_mem_each (j := 3) (t := 46) (d := x3.1) rfl (by rw [List.getElem?_map, hx3]; rfl) _ hy
set_option maxRecDepth 100000 in
theorem open_opH {r : Reach} {b0 : Nat} {v : Value} {d : DataW H} {ps : List MemPlace} (hval : Value.okWide Try.prog w r b0 48 v) (hd : DataW.Trod enc Try.prog w base spare held 48 v d ps) :
    ∃ o : OpH, v = .agg (opA o) ∧ OpW w o ∧ ∀ m, (∀ y ∈ d.weights Try.prog 48, y ≤ m) → OpS o m := by
  obtain ⟨cs, rfl, _⟩ := okWide_struct Try.underlying48 hval
  obtain ⟨fuel, hf⟩ := hd
  obtain ⟨o, e, hw, hm⟩ := opH_of_trod hf
  refine ⟨o, ?_, hw, hm⟩
  have e2 : cs.toList = (opA o).toList := e
  rw [Array.toList_inj.1 e2]
end
end Go.Proofs.Ytlfanecaglbomaa
