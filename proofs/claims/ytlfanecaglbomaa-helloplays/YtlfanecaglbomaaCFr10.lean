/- Arguments: an identity, a call of a script with its frame, a script. -/
import Derived.Test.YtlfanecaglbomaaCH1
import Derived.Test.YtlfanecaglbomaaCFr5
namespace Go.Proofs.Ytlfanecaglbomaa
set_option maxRecDepth 100000
open Go.ChangeShapes Go.WideShapes Go.ChangeAt Go.RowKit
structure OpH where
  kd : Int
  ni : Int
  nn : Int
  ao : Option Addr
  cap : Nat
  l : List Nat
  f : Fr
  d : FD
def opA (o : OpH) : Array Value := c48 o.kd o.ni o.nn ⟨o.ao, o.l.length, o.cap⟩ o.f.kind o.f.pw o.f.pn o.f.toA o.f.a o.f.b o.f.n o.f.fi o.f.fn o.f.ti o.f.tn o.f.tr o.f.ids o.f.key o.f.vn o.f.vw o.f.val o.f.op o.f.ttl o.f.tx
def opH (o : OpH) : List Value := (opA o).toList
theorem yy (o : OpH) : (opH o).length = 99 := by kernel_rfl
theorem opH_one (o : OpH) : ∀ v ∈ opH o, v.oneCell' = true := by
  have h : (opH o).all (·.oneCell') = true := by kernel_rfl
  exact List.all_eq_true.1 h
theorem opH_cat (o : OpH) : opH o = [iK o.kd, iK o.ni, iK o.nn, .slice o.ao o.l.length o.cap] ++ (frA o.f).toList := by kernel_rfl
theorem cells48 : Try.prog.cellsOf 48 = 99 := by kernel_rfl
theorem bytes48 : Try.prog.bytesOf 48 = 312 := by kernel_rfl
theorem cells46 : Try.prog.cellsOf 46 = 95 := by kernel_rfl
theorem cells29 : Try.prog.cellsOf 29 = 2 := by kernel_rfl
theorem uf : ∀ (os : List OpH), (os.flatMap opH).length = os.length * 99
  | [] => rfl
  | x :: os => by
    rw [List.flatMap_cons, List.length_append, uf os, List.length_cons, yy]
    omega
theorem ug : ∀ (os : List OpH) (m : Nat) (v : Value), (os.flatMap opH)[m]? = some v → ∃ o, os[m / 99]? = some o ∧ (opH o)[m % 99]? = some v
  | [], m, v, h => by simp at h
  | x :: os, m, v, h => by
    rw [List.flatMap_cons] at h
    by_cases hm : m < 99
    · rw [List.getElem?_append_left (by rw [yy]; exact hm)] at h
      exact ⟨x, by rw [Nat.div_eq_of_lt hm]; rfl, by rw [Nat.mod_eq_of_lt hm]; exact h⟩
    · rw [List.getElem?_append_right (by rw [yy]; omega), yy] at h
      obtain ⟨o, h1, h2⟩ := ug os (m - 99) v h
      refine ⟨o, ?_, ?_⟩
      · have : m / 99 = (m - 99) / 99 + 1 := by omega
        rw [this, List.getElem?_cons_succ]
        exact h1
      · have : m % 99 = (m - 99) % 99 := by omega
        rw [this]
        exact h2
structure OpW (w : World) (o : OpH) : Prop where
  nc : NC w .u8 o.ao o.cap o.l
  fw : FrW w o.f o.d
  fr : FrR o.f
structure OH (w : World) (ao : Option Addr) (cap : Nat) (os : List OpH) : Prop where
  row : XC w 99 ao cap os.length (os.flatMap opH)
  op : ∀ o ∈ os, OpW w o
theorem oT : RowT Try.prog 24 48 99 312 (.agg (c48 0 0 0 Sl.nil 0 zF 0 false zF zF 0 0 0 0 0 Sl.nil Sl.nil zF 0 zF Sl.nil 0 0 Sl.nil)) := ⟨Try.underlying24, yA (by kernel_rfl), by kernel_rfl, by decide⟩
def OpS (o : OpH) (m : Nat) : Prop := o.l.length ≤ m ∧ o.d.tr.length * 8 ≤ m ∧ o.d.ids.length * 16 ≤ m ∧ o.d.val.length ≤ m ∧ o.d.tx.length ≤ m
section
variable {H : Type} {enc : TypeId × Value → H} {w : World} {base : Nat} {spare : Nat → Bool} {held : Bool}
theorem Yl {r : Reach} {b0 : Nat} {v : Value} {d : DataW H} {ps : List MemPlace} (hval : Value.okWide Try.prog w r b0 23 v) (hd : DataW.Trod enc Try.prog w base spare held 23 v d ps) : ∃ y : Nat → Nat, v = .agg (c23 y) ∧ okI y := by
  have hu := Try.underlying23
  simp only [Value.okWide, hu] at hval
  obtain ⟨cs, rfl, _, _⟩ := hval
  obtain ⟨fuel, hf⟩ := hd
  obtain ⟨y, h1, h2⟩ := yE hf
  refine ⟨y, ?_, h2⟩
  have e : cs.toList = (c23 y).toList := h1
  rw [Array.toList_inj.1 e]
theorem Jh {fuel : Nat} {cs : List Value} {x : DataW H × List MemPlace} (h : DataW.trod enc Try.prog w base spare held fuel 48 cs = some x) :
    ∃ o : OpH, cs = opH o ∧ OpW w o ∧ ∀ m, (∀ y ∈ x.1.weights Try.prog 48, y ≤ m) → OpS o m := by
  obtain ⟨xs, n, _, hx, hl, hxl, hf⟩ := DataW.trod_struct Try.underlying48 h
  have hxl : xs.length = 4 := hxl
  rw [cells48] at hl
  obtain ⟨x0, hx0⟩ : ∃ y, xs[0]? = some y := ⟨_, List.getElem?_eq_getElem (by omega)⟩
  have g0 : DataW.trod enc Try.prog w base spare held n 3 ((cs.drop 0).take (Try.prog.cellsOf 3)) = some x0 := by rw [← hx0]; exact hf 0 _ rfl
  rw [ck3] at g0
  obtain ⟨x1, hx1⟩ : ∃ y, xs[1]? = some y := ⟨_, List.getElem?_eq_getElem (by omega)⟩
  have g1 : DataW.trod enc Try.prog w base spare held n 29 ((cs.drop 1).take (Try.prog.cellsOf 29)) = some x1 := by rw [← hx1]; exact hf 1 _ rfl
  rw [cells29] at g1
  obtain ⟨x2, hx2⟩ : ∃ y, xs[2]? = some y := ⟨_, List.getElem?_eq_getElem (by omega)⟩
  have g2 : DataW.trod enc Try.prog w base spare held n 36 ((cs.drop 3).take (Try.prog.cellsOf 36)) = some x2 := by rw [← hx2]; exact hf 2 _ rfl
  rw [ck32] at g2
  obtain ⟨x3, hx3⟩ : ∃ y, xs[3]? = some y := ⟨_, List.getElem?_eq_getElem (by omega)⟩
  have g3 : DataW.trod enc Try.prog w base spare held n 46 ((cs.drop 4).take (Try.prog.cellsOf 46)) = some x3 := by rw [← hx3]; exact hf 3 _ rfl
  rw [cells46] at g3
  obtain ⟨zkd, qkd, _⟩ := zM Try.underlying3 g0
  obtain ⟨ys, n1, _, _, _, hyl, hg⟩ := DataW.trod_struct Try.underlying29 g1
  have hyl : ys.length = 2 := hyl
  obtain ⟨y0, hy0⟩ : ∃ y, ys[0]? = some y := ⟨_, List.getElem?_eq_getElem (by omega)⟩
  have k0 : DataW.trod enc Try.prog w base spare held n1 2 ((((cs.drop 1).take 2).drop 0).take (Try.prog.cellsOf 2)) = some y0 := by rw [← hy0]; exact hg 0 _ rfl
  rw [ck2, subSeg _ _ _ _ _ (by decide)] at k0
  obtain ⟨y1, hy1⟩ : ∃ y, ys[1]? = some y := ⟨_, List.getElem?_eq_getElem (by omega)⟩
  have k1 : DataW.trod enc Try.prog w base spare held n1 2 ((((cs.drop 1).take 2).drop 1).take (Try.prog.cellsOf 2)) = some y1 := by rw [← hy1]; exact hg 1 _ rfl
  rw [ck2, subSeg _ _ _ _ _ (by decide)] at k1
  obtain ⟨zni, qni, _⟩ := zM Try.underlying2 k0
  obtain ⟨znn, qnn, _⟩ := zM Try.underlying2 k1
  obtain ⟨st, lt, qt, xt, ot, wt⟩ := vF g2
  obtain ⟨f, d, qf, fw, fr, wf⟩ := Jo g3
  have en := jX (g := fun r : Nat => Value.int .u8 (r : Int)) xt
  obtain ⟨ao, nt, cap⟩ := st
  simp only at en
  subst en
  refine ⟨⟨zkd, zni, znn, ao, cap, lt, f, d⟩, ?_, ⟨vU xt ot, fw, fr⟩, fun m hm => ⟨wt m fun y hy => hm y ?_, wf m fun y hy => hm y ?_⟩⟩
  · have e0 : cs = cs.drop 0 := rfl
    have s0 : cs.drop 0 = [iK zkd] ++ cs.drop 1 := nextSeg qkd rfl
    have s1 : cs.drop 1 = [iK zni] ++ cs.drop 2 := nextSeg qni rfl
    have s2 : cs.drop 2 = [iK znn] ++ cs.drop 3 := nextSeg qnn rfl
    have s3 : cs.drop 3 = [.slice ao lt.length cap] ++ cs.drop 4 := nextSeg qt rfl
    have s4 : cs.drop 4 = (frA f).toList ++ cs.drop 99 := nextSeg qf rfl
    have s5 : cs.drop 99 = [] := List.drop_of_length_le (by omega)
    rw [opH_cat, e0, s0, s1, s2, s3, s4, s5]
    simp
  · rw [hx]
    show _ ∈ DataW.weights Try.prog 48 (.agg (xs.map (·.1)))
    rw [DataW.weights, Try.underlying48]
    exact DataW.weights_mem_each (j := 2) (t := 36) (d := x2.1) rfl (by rw [List.getElem?_map, hx2]; rfl) _ hy
  · rw [hx]
    show _ ∈ DataW.weights Try.prog 48 (.agg (xs.map (·.1)))
    rw [DataW.weights, Try.underlying48]
    exact DataW.weights_mem_each (j := 3) (t := 46) (d := x3.1) rfl (by rw [List.getElem?_map, hx3]; rfl) _ hy
theorem ZA {r : Reach} {b0 : Nat} {v : Value} {d : DataW H} {ps : List MemPlace} (hval : Value.okWide Try.prog w r b0 24 v) (hd : DataW.Trod enc Try.prog w base spare held 24 v d ps) :
    ∃ ao cap os, v = .slice ao (List.length os) cap ∧ OH w ao cap os ∧ ∀ m, (∀ y ∈ d.weights Try.prog 24, y ≤ m) → os.length * 312 ≤ m ∧ ∀ o ∈ os, OpS o m := by
  obtain ⟨a0, len0, cap0, rfl⟩ := okWide_slice Try.underlying24 hval
  obtain ⟨fuel, hf⟩ := hd
  rcases DataW.trod_slice Try.underlying24 hf with ⟨hcs, hx⟩ | ⟨a, len, cap, elems, rest, n, _, hcs, hx, _, hl, _, hel, hei, _, _⟩
  · exact ⟨none, 0, [], by simpa [Value.cells] using hcs, ⟨XC.nil _ _, fun o h => by (cases h)⟩, fun m _ => ⟨Nat.zero_le _, fun o h => by (cases h)⟩⟩
  · rw [cells48] at hei
    have each : ∀ i, ∃ q : OpH, i < len → (∀ r, r < 99 → w.cell? (a.add (i * 99 + r)) = (opH q)[r]?) ∧ OpW w q ∧ ∃ y, y ∈ elems ∧ ∀ m, (∀ z ∈ y.1.weights Try.prog 48, z ≤ m) → OpS q m := by
      intro i
      by_cases hi : i < len
      · have h1 := hei i hi
        rw [List.getElem?_eq_getElem (by omega)] at h1
        cases hc : w.cells? base (a.add (i * 99)) 99 with
        | none => rw [hc] at h1; cases h1
        | some cs =>
          rw [hc] at h1
          obtain ⟨q, h2, h3, h5⟩ := Jh (show DataW.trod enc Try.prog w base spare held n 48 cs = some elems[i] from h1)
          refine ⟨q, fun _ => ⟨fun r hr => ?_, h3, elems[i], List.getElem_mem _, h5⟩⟩
          have := (World.cells?_some hc).2.2 r hr
          rw [yZ, h2] at this
          exact this
      · exact ⟨⟨0, 0, 0, none, 0, [], pfr ⟨0, zF, 0, 0, 0, 0, 0, []⟩ Sl.nil Sl.nil Sl.nil Sl.nil, ⟨[], [], [], []⟩⟩, fun h => absurd h hi⟩
    obtain ⟨f, hf2⟩ := Classical.axiomOfChoice each
    have hmem : ∀ o ∈ (List.range len).map f, ∃ i, i < len ∧ f i = o := fun o ho => by
      obtain ⟨i, hi, rfl⟩ := List.mem_map.1 ho
      exact ⟨i, List.mem_range.1 hi, rfl⟩
    have hlen : ((List.range len).map f).length = len := by simp
    refine ⟨some a, cap, (List.range len).map f, ?_, ⟨⟨uf _, by rw [hlen]; exact hl, fun h => by (cases h), fun ad ha j v hv => ?_, fun v hv => ?_⟩, fun o ho => ?_⟩, fun m hm => ⟨?_, fun o ho => ?_⟩⟩
    · rw [hlen]
      simpa [Value.cells] using hcs
    · cases ha
      obtain ⟨o, h1, h2⟩ := ug _ _ _ hv
      rw [List.getElem?_map] at h1
      have hj : j / 99 < len := by
        cases hq : decide (j / 99 < len)
        · rw [List.getElem?_eq_none (by simp; have := of_decide_eq_false hq; omega)] at h1
          cases h1
        · exact of_decide_eq_true hq
      rw [List.getElem?_range hj] at h1
      simp only [Option.map_some, Option.some.injEq] at h1
      have h3 := (hf2 (j / 99) hj).1 (j % 99) (Nat.mod_lt _ (by decide))
      have h4 : j / 99 * 99 + j % 99 = j := by omega
      rw [h4, h1, h2] at h3
      exact h3
    · obtain ⟨o, _, ho⟩ := List.mem_flatMap.1 hv
      exact opH_one o v ho
    · obtain ⟨i, hi, rfl⟩ := hmem o ho
      exact (hf2 i hi).2.1
    · have hd2 : d = .slice (elems.map (·.1)) (rest.map (·.1)) := congrArg Prod.fst hx
      have := hm ((elems.length + rest.length) * Try.prog.bytesOf 48) (by
        rw [hd2, DataW.weights, Try.underlying24]
        simp)
      rw [bytes48] at this
      rw [hlen]
      omega
    · obtain ⟨i, hi, rfl⟩ := hmem o ho
      obtain ⟨y, hy, h5⟩ := (hf2 i hi).2.2
      refine h5 m fun z hz => hm z ?_
      have hd2 : d = .slice (elems.map (·.1)) (rest.map (·.1)) := congrArg Prod.fst hx
      rw [hd2, DataW.weights, Try.underlying24]
      refine List.mem_cons_of_mem _ (List.mem_append_left _ ?_)
      exact vj _ y.1 (List.mem_map.2 ⟨y, hy, rfl⟩) z hz
end
end Go.Proofs.Ytlfanecaglbomaa
