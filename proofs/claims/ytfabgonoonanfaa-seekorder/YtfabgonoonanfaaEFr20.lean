/- What is known (a node, friends, candidates, a number), as an argument. -/
import Derived.Test.YtfabgonoonanfaaRows
import Derived.Test.YtfabgonoonanfaaEA10
import Derived.Test.YtfabgonoonanfaaEFr
import Derived.ProofKit
namespace Go.Proofs.Ytfabgonoonanfaa
open Go.ChangeShapes Go.WideShapes Go.ChangeAt Go.RowKit
theorem cellsC : Try.prog.cellsOf 33 = 35 := by kernel_rfl
theorem cellsP : Try.prog.cellsOf 31 = 17 := by kernel_rfl
theorem cellsK : Try.prog.cellsOf 27 = 19 := by kernel_rfl
theorem cells24 : Try.prog.cellsOf 24 = 1 := by kernel_rfl
theorem cells25 : Try.prog.cellsOf 25 = 1 := by kernel_rfl
theorem cells3 : Try.prog.cellsOf 3 = 1 := by kernel_rfl
theorem cells2 : Try.prog.cellsOf 2 = 1 := by kernel_rfl
theorem I64.of {x : Int} (h : (Lit.int .i64 x).wf = true) : I64 x := by
  have e1 : IntKind.i64.min = -9223372036854775808 := rfl
  have e2 : IntKind.i64.max = 9223372036854775807 := rfl
  simp [Lit.wf, e1, e2] at h
  unfold I64
  omega
theorem cutP (l : List Value) (h : l.length = 17) : l = (l.drop 0).take 16 ++ (l.drop 16).take 1 := by
  rw [List.drop_zero]
  have e1 : (l.drop 16).take 1 = l.drop 16 := List.take_of_length_le (by rw [List.length_drop]; omega)
  rw [e1, List.take_append_drop]
theorem cutC (l : List Value) (h : l.length = 35) : l = (l.drop 0).take 16 ++ ((l.drop 16).take 1 ++ ((l.drop 17).take 1 ++ (l.drop 18).take 17)) := by
  rw [List.drop_zero]
  have e1 : (l.drop 18).take 17 = l.drop 18 := List.take_of_length_le (by rw [List.length_drop]; omega)
  have e2 : (l.drop 17).take 1 ++ l.drop 18 = l.drop 17 := by rw [show 18 = 17 + 1 from rfl, ← List.drop_drop, List.take_append_drop]
  have e3 : (l.drop 16).take 1 ++ l.drop 17 = l.drop 16 := by rw [show 17 = 16 + 1 from rfl, ← List.drop_drop, List.take_append_drop]
  rw [e1, e2, e3, List.take_append_drop]
theorem cutK (l : List Value) (h : l.length = 19) : l = (l.drop 0).take 16 ++ ((l.drop 16).take 1 ++ ((l.drop 17).take 1 ++ (l.drop 18).take 1)) := by
  rw [List.drop_zero]
  have e1 : (l.drop 18).take 1 = l.drop 18 := List.take_of_length_le (by rw [List.length_drop]; omega)
  have e2 : (l.drop 17).take 1 ++ l.drop 18 = l.drop 17 := by rw [show 18 = 17 + 1 from rfl, ← List.drop_drop, List.take_append_drop]
  have e3 : (l.drop 16).take 1 ++ l.drop 17 = l.drop 16 := by rw [show 17 = 16 + 1 from rfl, ← List.drop_drop, List.take_append_drop]
  rw [e1, e2, e3, List.take_append_drop]
section
variable {H : Type} {enc : TypeId × Value → H} {w : World} {base : Nat} {spare : Nat → Bool} {held : Bool}
theorem pa_of_trod {fuel : Nat} {l : List Value} {x : DataW H × List MemPlace} (h : DataW.trod enc Try.prog w base spare held fuel 31 l = some x) : ∃ p : Pa, p.ok ∧ l = paL p := by
  obtain ⟨xs, n, rfl, hx, hl, hxl, hf⟩ := DataW.trod_struct Try.underlying31 h
  have hxl2 : xs.length = 2 := hxl
  have h0 : DataW.trod enc Try.prog w base spare held n 23 ((l.drop 0).take (Try.prog.cellsOf 23)) = xs[0]? := hf 0 _ rfl
  rw [cells23, List.getElem?_eq_getElem (by omega)] at h0
  have h1 : DataW.trod enc Try.prog w base spare held n 2 ((l.drop 16).take (Try.prog.cellsOf 2)) = xs[1]? := hf 1 _ rfl
  rw [cells2, List.getElem?_eq_getElem (by omega)] at h1
  rw [cellsP] at hl
  obtain ⟨u, hu, e0⟩ := id_of_trod h0
  obtain ⟨k, e1, _, wf1⟩ := DataW.trod_int Try.underlying2 h1
  refine ⟨⟨u, k⟩, ⟨hu, I64.of wf1⟩, ?_⟩
  rw [cutP l hl, e0, e1]
  rfl
theorem cd_of_trod {fuel : Nat} {l : List Value} {x : DataW H × List MemPlace} (h : DataW.trod enc Try.prog w base spare held fuel 33 l = some x) : ∃ p : Cd, p.ok ∧ l = cdL p := by
  obtain ⟨xs, n, rfl, hx, hl, hxl, hf⟩ := DataW.trod_struct Try.underlying33 h
  have hxl2 : xs.length = 4 := hxl
  have h0 : DataW.trod enc Try.prog w base spare held n 23 ((l.drop 0).take (Try.prog.cellsOf 23)) = xs[0]? := hf 0 _ rfl
  rw [cells23, List.getElem?_eq_getElem (by omega)] at h0
  have h1 : DataW.trod enc Try.prog w base spare held n 3 ((l.drop 16).take (Try.prog.cellsOf 3)) = xs[1]? := hf 1 _ rfl
  rw [cells3, List.getElem?_eq_getElem (by omega)] at h1
  have h2 : DataW.trod enc Try.prog w base spare held n 3 ((l.drop 17).take (Try.prog.cellsOf 3)) = xs[2]? := hf 2 _ rfl
  rw [cells3, List.getElem?_eq_getElem (by omega)] at h2
  have h3 : DataW.trod enc Try.prog w base spare held n 31 ((l.drop 18).take (Try.prog.cellsOf 31)) = xs[3]? := hf 3 _ rfl
  rw [cellsP, List.getElem?_eq_getElem (by omega)] at h3
  rw [cellsC] at hl
  obtain ⟨u, hu, e0⟩ := id_of_trod h0
  obtain ⟨k, e1, _, wf1⟩ := DataW.trod_int Try.underlying3 h1
  obtain ⟨m, e2, _, wf2⟩ := DataW.trod_int Try.underlying3 h2
  obtain ⟨p, hp, e3⟩ := pa_of_trod h3
  refine ⟨⟨u, k, m, p⟩, ⟨hu, I64.of wf1, I64.of wf2, hp⟩, ?_⟩
  rw [cutC l hl, e0, e1, e2, e3]
  rfl
/-- A slice of whatever, opened. -/
theorem open_rowM {α : Type} (E : α → List Value) (ok : α → Prop) (z : α) (t e sz : Nat) (hsz : ∀ x, (E x).length = sz) (hone : ∀ x, ∀ v ∈ E x, v.oneCell' = true) (hpos : 0 < sz) (hu : Try.prog.underlying t = some (.slice e)) (hc : Try.prog.cellsOf e = sz)
    (hE : ∀ {fuel : Nat} {l : List Value} {x : DataW H × List MemPlace}, DataW.trod enc Try.prog w base spare held fuel e l = some x → ∃ p : α, ok p ∧ l = E p)
    {fuel : Nat} {cs : List Value} {x : DataW H × List MemPlace} (hf : DataW.trod enc Try.prog w base spare held fuel t cs = some x) :
    ∃ ao cap l, cs = [.slice ao (List.length l) cap] ∧ XC w sz ao cap l.length (l.flatMap E) ∧ (∀ x ∈ l, ok x) ∧ l.length ≤ maxLen ∧ ∀ m, (∀ y ∈ x.1.weights Try.prog t, y ≤ m) → l.length * Try.prog.bytesOf e ≤ m := by
  rcases DataW.trod_slice hu hf with ⟨h0, _⟩ | ⟨a, len, cap, elems, rest, n, _, h0, hx, hb, hl, hm, hlen, hel, _, _⟩
  · exact ⟨none, 0, [], h0, XC.nil w sz, fun _ h => (by cases h), Nat.zero_le _, fun m _ => by simp⟩
  · have key : ∀ i, ∃ x, i < len → (ok x ∧ w.cells? base (a.add (i * sz)) sz = some (E x)) := fun i => by
      by_cases hi : i < len
      · have h1 := hel i hi
        rw [List.getElem?_eq_getElem (by omega), hc] at h1
        cases hcc : w.cells? base (a.add (i * sz)) sz with
        | none => rw [hcc] at h1; cases h1
        | some lst =>
          rw [hcc] at h1
          obtain ⟨x, hx, hh⟩ := hE h1
          exact ⟨x, fun _ => ⟨hx, by rw [hh]⟩⟩
      · exact ⟨z, fun h => absurd h hi⟩
    obtain ⟨f, hfun⟩ := Classical.axiomOfChoice key
    have hlen' : ((List.range len).map f).length = len := by simp
    refine ⟨some a, cap, (List.range len).map f, by rw [hlen']; exact h0, ⟨flx_len hsz _, by rw [hlen']; exact hl, fun h => (by cases h), fun ad ha j u hu => ?_, fun u hu => ?_⟩, fun x hx => ?_, by rw [hlen']; omega, fun m hw => ?_⟩
    · cases ha
      have hj := (List.getElem?_eq_some_iff.1 hu).1
      rw [flx_len hsz, hlen'] at hj
      have hq : j / sz < len := Nat.div_lt_of_lt_mul (by rw [Nat.mul_comm]; exact hj)
      have hr : j % sz < sz := Nat.mod_lt _ hpos
      have ej : j / sz * sz + j % sz = j := by rw [Nat.mul_comm]; exact Nat.div_add_mod j sz
      have h2 := flx_cell hsz z ((List.range len).map f) (j / sz) (by rw [hlen']; exact hq) (j % sz) hr
      rw [ej, hu] at h2
      have hg : ((List.range len).map f).getD (j / sz) z = f (j / sz) := by
        rw [List.getD_eq_getElem?_getD, List.getElem?_map, List.getElem?_range hq]
        rfl
      rw [hg] at h2
      have hcc := (World.cells?_some (hfun (j / sz) hq).2).2.2 (j % sz) hr
      rw [add_add, ej] at hcc
      rw [hcc]
      exact h2.symm
    · obtain ⟨x, _, hx⟩ := List.mem_flatMap.1 hu
      exact hone x u hx
    · obtain ⟨i, hi, rfl⟩ := List.mem_map.1 hx
      exact (hfun i (List.mem_range.1 hi)).1
    · have hd2 : x.1 = .slice (elems.map (·.1)) (rest.map (·.1)) := congrArg Prod.fst hx
      have h3 := hw ((elems.length + rest.length) * Try.prog.bytesOf e) (by
        rw [hd2, DataW.weights, hu]
        simp)
      rw [hlen']
      exact Nat.le_trans (Nat.mul_le_mul_right _ (by omega)) h3
theorem rowI_seg {fuel : Nat} {cs : List Value} {x : DataW H × List MemPlace} (h : DataW.trod enc Try.prog w base spare held fuel 24 cs = some x) : ∃ ao cap l, cs = [.slice ao (List.length l) cap] ∧ RK kI w ao cap l := by
  obtain ⟨ao, cap, l, h1, h2, h3, _, _⟩ := open_rowM kI.E (fun n => n < top) 0 24 23 16 kI.len kI.one (by decide) Try.underlying24 cells23 id_of_trod h
  exact ⟨ao, cap, l, h1, h2, h3⟩
theorem rowC_seg {fuel : Nat} {cs : List Value} {x : DataW H × List MemPlace} (h : DataW.trod enc Try.prog w base spare held fuel 25 cs = some x) : ∃ ao cap l, cs = [.slice ao (List.length l) cap] ∧ RK kC w ao cap l := by
  obtain ⟨ao, cap, l, h1, h2, h3, _, _⟩ := open_rowM cdL Cd.ok zC 25 33 35 cdL_len cdL_one (by decide) Try.underlying25 cellsC cd_of_trod h
  exact ⟨ao, cap, l, h1, h2, h3⟩
set_option maxRecDepth 100000 in
theorem open_kn {r : Reach} {b0 : Nat} {v : Value} {d : DataW H} {ps : List MemPlace} (hval : Value.okWide Try.prog w r b0 27 v) (hd : DataW.Trod enc Try.prog w base spare held 27 v d ps) :
    ∃ s fo fc fr ao cap l half, s < top ∧ v = .agg (knA s fo (List.length fr) fc ao (List.length l) cap half) ∧ RK kI w fo fc fr ∧ RK kC w ao cap l := by
  have hu := Try.underlying27
  simp only [Value.okWide, hu] at hval
  obtain ⟨cs, rfl, _, _⟩ := hval
  obtain ⟨fuel, hf⟩ := hd
  have hf' : DataW.trod enc Try.prog w base spare held fuel 27 cs.toList = some (d, ps) := hf
  obtain ⟨xs, n, rfl, hx, hl, hxl, hff⟩ := DataW.trod_struct Try.underlying27 hf'
  have hxl2 : xs.length = 4 := hxl
  have h0 : DataW.trod enc Try.prog w base spare held n 23 ((cs.toList.drop 0).take (Try.prog.cellsOf 23)) = xs[0]? := hff 0 _ rfl
  have h1 : DataW.trod enc Try.prog w base spare held n 24 ((cs.toList.drop 16).take (Try.prog.cellsOf 24)) = xs[1]? := hff 1 _ rfl
  have h2 : DataW.trod enc Try.prog w base spare held n 25 ((cs.toList.drop 17).take (Try.prog.cellsOf 25)) = xs[2]? := hff 2 _ rfl
  have h3 : DataW.trod enc Try.prog w base spare held n 3 ((cs.toList.drop 18).take (Try.prog.cellsOf 3)) = xs[3]? := hff 3 _ rfl
  rw [cells23, List.getElem?_eq_getElem (by omega)] at h0
  rw [cells24, List.getElem?_eq_getElem (by omega)] at h1
  rw [cells25, List.getElem?_eq_getElem (by omega)] at h2
  rw [cells3, List.getElem?_eq_getElem (by omega)] at h3
  rw [cellsK] at hl
  obtain ⟨s, hs, e0⟩ := id_of_trod h0
  obtain ⟨fo, fc, fr, e1, n1⟩ := rowI_seg h1
  obtain ⟨ao, cap, l, e2, n2⟩ := rowC_seg h2
  obtain ⟨half, e3, _, _⟩ := DataW.trod_int Try.underlying3 h3
  refine ⟨s, fo, fc, fr, ao, cap, l, half, hs, ?_, n1, n2⟩
  have : cs.toList = (idA s).toList ++ ([.slice fo fr.length fc] ++ ([.slice ao l.length cap] ++ [.int .i64 half])) := by
    rw [cutK cs.toList hl, e0, e1, e2, e3]
  congr 1
  exact Array.toList_inj.1 this
end
end Go.Proofs.Ytfabgonoonanfaa
