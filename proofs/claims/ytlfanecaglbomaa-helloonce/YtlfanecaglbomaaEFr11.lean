/- Arguments: what happens to a talk. -/
import Derived.Test.YtlfanecaglbomaaEO7
import Derived.Test.YtlfanecaglbomaaEFr10
namespace Go.Proofs.Ytlfanecaglbomaa
set_option maxRecDepth 100000
open Go.ChangeShapes Go.WideShapes Go.ChangeAt Go.RowKit
structure WyH where
  kd : Int
  sd : Int
  ix : Int
  ao : Option Addr
  cap : Nat
  l : List Nat
def wyA (o : WyH) : Array Value := c85 o.kd o.sd o.ix ⟨o.ao, o.l.length, o.cap⟩
def wyH (o : WyH) : List Value := (wyA o).toList
theorem yO (o : WyH) : (wyH o).length = 4 := by kernel_rfl
theorem Yv (o : WyH) : ∀ v ∈ wyH o, v.oneCell' = true := by
  have h : (wyH o).all (·.oneCell') = true := by kernel_rfl
  exact List.all_eq_true.1 h
theorem Yw (o : WyH) : wyH o = [iK o.kd, iK o.sd, iK o.ix, .slice o.ao o.l.length o.cap] := by kernel_rfl
theorem cells85 : Try.prog.cellsOf 85 = 4 := by kernel_rfl
theorem bytes85 : Try.prog.bytesOf 85 = 48 := by kernel_rfl
theorem vh : ∀ (os : List WyH), (os.flatMap wyH).length = os.length * 4
  | [] => rfl
  | x :: os => by
    rw [List.flatMap_cons, List.length_append, vh os, List.length_cons, yO]
    omega
theorem ul : ∀ (os : List WyH) (m : Nat) (v : Value), (os.flatMap wyH)[m]? = some v → ∃ o, os[m / 4]? = some o ∧ (wyH o)[m % 4]? = some v
  | [], m, v, h => by simp at h
  | x :: os, m, v, h => by
    rw [List.flatMap_cons] at h
    by_cases hm : m < 4
    · rw [List.getElem?_append_left (by rw [yO]; exact hm)] at h
      exact ⟨x, by rw [Nat.div_eq_of_lt hm]; rfl, by rw [Nat.mod_eq_of_lt hm]; exact h⟩
    · rw [List.getElem?_append_right (by rw [yO]; omega), yO] at h
      obtain ⟨o, h1, h2⟩ := ul os (m - 4) v h
      refine ⟨o, ?_, ?_⟩
      · have : m / 4 = (m - 4) / 4 + 1 := by omega
        rw [this, List.getElem?_cons_succ]
        exact h1
      · have : m % 4 = (m - 4) % 4 := by omega
        rw [this]
        exact h2
theorem Zo (os : List WyH) (j : Nat) (y : WyH) (hy : os[j]? = some y) : (((os.flatMap wyH).drop (j * 4)).take 4).toArray = wyA y := by
  have e : os.flatMap wyH = (os.take j).flatMap wyH ++ (wyH y ++ (os.drop (j + 1)).flatMap wyH) := by
    have h1 := (List.getElem?_eq_some_iff.1 hy).1
    have h2 : os = os.take j ++ y :: os.drop (j + 1) := by
      rw [← (List.getElem?_eq_some_iff.1 hy).2, List.getElem_cons_drop, List.take_append_drop]
    rw [congrArg (fun l => List.flatMap wyH l) h2, List.flatMap_append, List.flatMap_cons]
  have hl : ((os.take j).flatMap wyH).length = j * 4 := by rw [vh, List.length_take, Nat.min_eq_left (Nat.le_of_lt (List.getElem?_eq_some_iff.1 hy).1)]
  rw [e, List.drop_left' hl, List.take_left' (yO y)]
  simp [wyH]
structure OWy (w : World) (ao : Option Addr) (cap : Nat) (os : List WyH) : Prop where
  row : XC w 4 ao cap os.length (os.flatMap wyH)
  op : ∀ o ∈ os, NC w .u8 o.ao o.cap o.l
theorem wT : RowT Try.prog 75 85 4 48 (.agg (c85 0 0 0 Sl.nil)) := ⟨Try.underlying75, ym (by kernel_rfl), by kernel_rfl, by decide⟩
theorem ld_wyH {o : Oper} {A : Act} {cap : Nat} {ws : List WyH} (x : Operand) (ho : o.op = .load 85 x) (ad : Addr) (j : Nat) (hx : A.eval x = .pointer (some (ad.add (j * 4)))) {w : World} (H : XC w 4 (some ad) cap ws.length (ws.flatMap wyH)) (y : WyH) (hy : ws[j]? = some y) : (execOp A.eval o).run Try.prog w = .ok (.value (.agg (wyA y))) w :=
  vK wT _ Try.underlying85 rfl x ho ad j hx w H ((List.getElem?_eq_some_iff.1 hy).1) _ (Zo ws j y hy)
section
variable {H : Type} {enc : TypeId × Value → H} {w : World} {base : Nat} {spare : Nat → Bool} {held : Bool}
theorem uU {fuel : Nat} {cs : List Value} {x : DataW H × List MemPlace} (h : DataW.trod enc Try.prog w base spare held fuel 85 cs = some x) :
    ∃ o : WyH, cs = wyH o ∧ NC w .u8 o.ao o.cap o.l := by
  obtain ⟨xs, n, _, hx, hl, hxl, hf⟩ := DataW.trod_struct Try.underlying85 h
  have hxl : xs.length = 4 := hxl
  rw [cells85] at hl
  obtain ⟨x0, hx0⟩ : ∃ y, xs[0]? = some y := ⟨_, List.getElem?_eq_getElem (by omega)⟩
  have g0 : DataW.trod enc Try.prog w base spare held n 3 ((cs.drop 0).take (Try.prog.cellsOf 3)) = some x0 := by rw [← hx0]; exact hf 0 _ rfl
  rw [ck3] at g0
  obtain ⟨x1, hx1⟩ : ∃ y, xs[1]? = some y := ⟨_, List.getElem?_eq_getElem (by omega)⟩
  have g1 : DataW.trod enc Try.prog w base spare held n 3 ((cs.drop 1).take (Try.prog.cellsOf 3)) = some x1 := by rw [← hx1]; exact hf 1 _ rfl
  rw [ck3] at g1
  obtain ⟨x2, hx2⟩ : ∃ y, xs[2]? = some y := ⟨_, List.getElem?_eq_getElem (by omega)⟩
  have g2 : DataW.trod enc Try.prog w base spare held n 3 ((cs.drop 2).take (Try.prog.cellsOf 3)) = some x2 := by rw [← hx2]; exact hf 2 _ rfl
  rw [ck3] at g2
  obtain ⟨x3, hx3⟩ : ∃ y, xs[3]? = some y := ⟨_, List.getElem?_eq_getElem (by omega)⟩
  have g3 : DataW.trod enc Try.prog w base spare held n 36 ((cs.drop 3).take (Try.prog.cellsOf 36)) = some x3 := by rw [← hx3]; exact hf 3 _ rfl
  rw [ck32] at g3
  obtain ⟨zkd, qkd, _⟩ := uF Try.underlying3 g0
  obtain ⟨zsd, qsd, _⟩ := uF Try.underlying3 g1
  obtain ⟨zix, qix, _⟩ := uF Try.underlying3 g2
  obtain ⟨st, lt, qt, xt, ot, _⟩ := ZI g3
  have en := un (g := fun r : Nat => Value.int .u8 (r : Int)) xt
  obtain ⟨ao, nt, cap⟩ := st
  simp only at en
  subst en
  refine ⟨⟨zkd, zsd, zix, ao, cap, lt⟩, ?_, xc_nc xt ot⟩
  have e0 : cs = cs.drop 0 := rfl
  have s0 : cs.drop 0 = [iK zkd] ++ cs.drop 1 := nextSeg qkd rfl
  have s1 : cs.drop 1 = [iK zsd] ++ cs.drop 2 := nextSeg qsd rfl
  have s2 : cs.drop 2 = [iK zix] ++ cs.drop 3 := nextSeg qix rfl
  have s3 : cs.drop 3 = [.slice ao lt.length cap] ++ cs.drop 4 := nextSeg qt rfl
  have s4 : cs.drop 4 = [] := List.drop_of_length_le (by omega)
  rw [Yw, e0, s0, s1, s2, s3, s4]
  rfl
theorem JA {r : Reach} {b0 : Nat} {v : Value} {d : DataW H} {ps : List MemPlace} (hval : Value.okWide Try.prog w r b0 75 v) (hd : DataW.Trod enc Try.prog w base spare held 75 v d ps) :
    ∃ ao cap os, v = .slice ao (List.length os) cap ∧ OWy w ao cap os ∧ ∀ m, (∀ y ∈ d.weights Try.prog 75, y ≤ m) → os.length * 48 ≤ m := by
  obtain ⟨a0, len0, cap0, rfl⟩ := okWide_slice Try.underlying75 hval
  obtain ⟨fuel, hf⟩ := hd
  rcases DataW.trod_slice Try.underlying75 hf with ⟨hcs, hx⟩ | ⟨a, len, cap, elems, rest, n, _, hcs, hx, _, hl, _, hel, hei, _, _⟩
  · exact ⟨none, 0, [], by simpa [Value.cells] using hcs, ⟨XC.nil _ _, fun o h => by (cases h)⟩, fun m _ => Nat.zero_le _⟩
  · rw [cells85] at hei
    have each : ∀ i, ∃ q : WyH, i < len → (∀ r, r < 4 → w.cell? (a.add (i * 4 + r)) = (wyH q)[r]?) ∧ NC w .u8 q.ao q.cap q.l := by
      intro i
      by_cases hi : i < len
      · have h1 := hei i hi
        rw [List.getElem?_eq_getElem (by omega)] at h1
        cases hc : w.cells? base (a.add (i * 4)) 4 with
        | none => rw [hc] at h1; cases h1
        | some cs =>
          rw [hc] at h1
          obtain ⟨q, h2, h3⟩ := uU (show DataW.trod enc Try.prog w base spare held n 85 cs = some elems[i] from h1)
          refine ⟨q, fun _ => ⟨fun r hr => ?_, h3⟩⟩
          have := (World.cells?_some hc).2.2 r hr
          rw [vC, h2] at this
          exact this
      · exact ⟨⟨0, 0, 0, none, 0, []⟩, fun h => absurd h hi⟩
    obtain ⟨f, hf2⟩ := Classical.axiomOfChoice each
    have hmem : ∀ o ∈ (List.range len).map f, ∃ i, i < len ∧ f i = o := fun o ho => by
      obtain ⟨i, hi, rfl⟩ := List.mem_map.1 ho
      exact ⟨i, List.mem_range.1 hi, rfl⟩
    have hlen : ((List.range len).map f).length = len := by simp
    refine ⟨some a, cap, (List.range len).map f, ?_, ⟨⟨vh _, by rw [hlen]; exact hl, fun h => by (cases h), fun ad ha j v hv => ?_, fun v hv => ?_⟩, fun o ho => ?_⟩, fun m hm => ?_⟩
    · rw [hlen]
      simpa [Value.cells] using hcs
    · cases ha
      obtain ⟨o, h1, h2⟩ := ul _ _ _ hv
      rw [List.getElem?_map] at h1
      have hj : j / 4 < len := by
        cases hq : decide (j / 4 < len)
        · rw [List.getElem?_eq_none (by simp; have := of_decide_eq_false hq; omega)] at h1
          cases h1
        · exact of_decide_eq_true hq
      rw [List.getElem?_range hj] at h1
      simp only [Option.map_some, Option.some.injEq] at h1
      have h3 := (hf2 (j / 4) hj).1 (j % 4) (Nat.mod_lt _ (by decide))
      have h4 : j / 4 * 4 + j % 4 = j := by omega
      rw [h4, h1, h2] at h3
      exact h3
    · obtain ⟨o, _, ho⟩ := List.mem_flatMap.1 hv
      exact Yv o v ho
    · obtain ⟨i, hi, rfl⟩ := hmem o ho
      exact (hf2 i hi).2
    · have hd2 : d = .slice (elems.map (·.1)) (rest.map (·.1)) := congrArg Prod.fst hx
      have := hm ((elems.length + rest.length) * Try.prog.bytesOf 85) (by
        rw [hd2, DataW.weights, Try.underlying75]
        simp)
      rw [bytes85] at this
      rw [hlen]
      omega
end
end Go.Proofs.Ytlfanecaglbomaa
