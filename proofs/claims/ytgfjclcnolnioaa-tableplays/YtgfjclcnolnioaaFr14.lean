/- Keys, entries, and rows of them and of calls, as arguments. -/
import Derived.Test.YtgfjclcnolnioaaP12
import Derived.Test.YtgfjclcnolnioaaFr
import Derived.ProofKit
namespace Go.Proofs.Ytgfjclcnolnioaa
open Go.ChangeShapes Go.WideShapes Go.ChangeAt Go.RowKit

theorem cells3 : Try.prog.cellsOf 3 = 1 := by kernel_rfl
theorem cells33 : Try.prog.cellsOf 33 = 51 := by kernel_rfl
theorem cells35 : Try.prog.cellsOf 35 = 53 := by kernel_rfl
theorem I64.of {x : Int} (h : (Lit.int .i64 x).wf = true) : I64 x := by
  have e1 : IntKind.i64.min = -9223372036854775808 := rfl
  have e2 : IntKind.i64.max = 9223372036854775807 := rfl
  simp [Lit.wf, e1, e2] at h
  unfold I64
  omega
theorem cut2 (l : List Value) (a b : Nat) (h : l.length = a + b) : l = (l.drop 0).take a ++ (l.drop a).take b := by
  rw [List.drop_zero]
  have e1 : (l.drop a).take b = l.drop a := List.take_of_length_le (by rw [List.length_drop]; omega)
  rw [e1, List.take_append_drop]
theorem cut5 (l : List Value) (h : l.length = 51) : l = (l.drop 0).take 17 ++ ((l.drop 17).take 16 ++ ((l.drop 33).take 16 ++ ((l.drop 49).take 1 ++ (l.drop 50).take 1))) := by
  rw [List.drop_zero]
  have e1 : (l.drop 50).take 1 = l.drop 50 := List.take_of_length_le (by rw [List.length_drop]; omega)
  have e2 : (l.drop 49).take 1 ++ l.drop 50 = l.drop 49 := by rw [show 50 = 49 + 1 from rfl, ← List.drop_drop, List.take_append_drop]
  have e3 : (l.drop 33).take 16 ++ l.drop 49 = l.drop 33 := by rw [show 49 = 33 + 16 from rfl, ← List.drop_drop, List.take_append_drop]
  have e4 : (l.drop 17).take 16 ++ l.drop 33 = l.drop 17 := by rw [show 33 = 17 + 16 from rfl, ← List.drop_drop, List.take_append_drop]
  rw [e1, e2, e3, e4, List.take_append_drop]
theorem cut3 (l : List Value) (h : l.length = 53) : l = (l.drop 0).take 1 ++ ((l.drop 1).take 1 ++ (l.drop 2).take 51) := by
  rw [List.drop_zero]
  have e1 : (l.drop 2).take 51 = l.drop 2 := List.take_of_length_le (by rw [List.length_drop]; omega)
  have e2 : (l.drop 1).take 1 ++ l.drop 2 = l.drop 1 := by rw [show 2 = 1 + 1 from rfl, ← List.drop_drop, List.take_append_drop]
  rw [e1, e2, List.take_append_drop]
section
variable {H : Type} {enc : TypeId × Value → H} {w : World} {base : Nat} {spare : Nat → Bool} {held : Bool}
theorem pa_of_trod {fuel : Nat} {l : List Value} {x : DataW H × List MemPlace} (h : DataW.trod enc Try.prog w base spare held fuel 31 l = some x) : ∃ p : Pa, p.ok ∧ l = paL p := by
  obtain ⟨xs, n, rfl, hx, hl, hxl, hf⟩ := DataW.trod_struct Try.underlying31 h
  have hxl2 : xs.length = 2 := hxl
  have h0 : DataW.trod enc Try.prog w base spare held n 29 ((l.drop 0).take (Try.prog.cellsOf 29)) = xs[0]? := hf 0 _ rfl
  rw [cells29', List.getElem?_eq_getElem (by omega)] at h0
  have h1 : DataW.trod enc Try.prog w base spare held n 2 ((l.drop 16).take (Try.prog.cellsOf 2)) = xs[1]? := hf 1 _ rfl
  rw [cells2', List.getElem?_eq_getElem (by omega)] at h1
  rw [cells31] at hl
  obtain ⟨u, hu, e0⟩ := id_of_trod h0
  obtain ⟨m, e1, _, wf1⟩ := DataW.trod_int Try.underlying2 h1
  refine ⟨⟨u, m⟩, ⟨hu, I64.of wf1⟩, ?_⟩
  rw [cut2 l 16 1 hl, e0, e1]
  rfl
theorem en_of_trod {fuel : Nat} {l : List Value} {x : DataW H × List MemPlace} (h : DataW.trod enc Try.prog w base spare held fuel 33 l = some x) : ∃ p : En, p.ok ∧ l = enL p := by
  obtain ⟨xs, n, rfl, hx, hl, hxl, hf⟩ := DataW.trod_struct Try.underlying33 h
  have hxl2 : xs.length = 5 := hxl
  have h0 : DataW.trod enc Try.prog w base spare held n 31 ((l.drop 0).take (Try.prog.cellsOf 31)) = xs[0]? := hf 0 _ rfl
  rw [cells31, List.getElem?_eq_getElem (by omega)] at h0
  have h1 : DataW.trod enc Try.prog w base spare held n 29 ((l.drop 17).take (Try.prog.cellsOf 29)) = xs[1]? := hf 1 _ rfl
  rw [cells29', List.getElem?_eq_getElem (by omega)] at h1
  have h2 : DataW.trod enc Try.prog w base spare held n 29 ((l.drop 33).take (Try.prog.cellsOf 29)) = xs[2]? := hf 2 _ rfl
  rw [cells29', List.getElem?_eq_getElem (by omega)] at h2
  have h3 : DataW.trod enc Try.prog w base spare held n 3 ((l.drop 49).take (Try.prog.cellsOf 3)) = xs[3]? := hf 3 _ rfl
  rw [cells3, List.getElem?_eq_getElem (by omega)] at h3
  have h4 : DataW.trod enc Try.prog w base spare held n 3 ((l.drop 50).take (Try.prog.cellsOf 3)) = xs[4]? := hf 4 _ rfl
  rw [cells3, List.getElem?_eq_getElem (by omega)] at h4
  rw [cells33] at hl
  obtain ⟨p, hp, e0⟩ := pa_of_trod h0
  obtain ⟨a, ha, e1⟩ := id_of_trod h1
  obtain ⟨b, hb, e2⟩ := id_of_trod h2
  obtain ⟨m, e3, _, wf3⟩ := DataW.trod_int Try.underlying3 h3
  obtain ⟨k, e4, _, wf4⟩ := DataW.trod_int Try.underlying3 h4
  refine ⟨⟨p, a, b, m, k⟩, ⟨hp, ha, hb, I64.of wf3, I64.of wf4⟩, ?_⟩
  rw [cut5 l hl, e0, e1, e2, e3, e4]
  rfl
theorem op_of_trod {fuel : Nat} {l : List Value} {x : DataW H × List MemPlace} (h : DataW.trod enc Try.prog w base spare held fuel 35 l = some x) : ∃ o : Oq, o.ok ∧ l = opL o := by
  obtain ⟨xs, n, rfl, hx, hl, hxl, hf⟩ := DataW.trod_struct Try.underlying35 h
  have hxl2 : xs.length = 3 := hxl
  have h0 : DataW.trod enc Try.prog w base spare held n 3 ((l.drop 0).take (Try.prog.cellsOf 3)) = xs[0]? := hf 0 _ rfl
  rw [cells3, List.getElem?_eq_getElem (by omega)] at h0
  have h1 : DataW.trod enc Try.prog w base spare held n 3 ((l.drop 1).take (Try.prog.cellsOf 3)) = xs[1]? := hf 1 _ rfl
  rw [cells3, List.getElem?_eq_getElem (by omega)] at h1
  have h2 : DataW.trod enc Try.prog w base spare held n 33 ((l.drop 2).take (Try.prog.cellsOf 33)) = xs[2]? := hf 2 _ rfl
  rw [cells33, List.getElem?_eq_getElem (by omega)] at h2
  rw [cells35] at hl
  obtain ⟨m, e0, _, wf0⟩ := DataW.trod_int Try.underlying3 h0
  obtain ⟨k, e1, _, wf1⟩ := DataW.trod_int Try.underlying3 h1
  obtain ⟨q, hq, e2⟩ := en_of_trod h2
  refine ⟨⟨m, k, q⟩, ⟨I64.of wf0, I64.of wf1, hq⟩, ?_⟩
  rw [cut3 l hl, e0, e1, e2]
  rfl
theorem open_pa {r : Reach} {b0 : Nat} {v : Value} {d : DataW H} {ps : List MemPlace} (hval : Value.okWide Try.prog w r b0 31 v) (hd : DataW.Trod enc Try.prog w base spare held 31 v d ps) : ∃ p : Pa, p.ok ∧ v = .agg (paA p) := by
  have hu := Try.underlying31
  simp only [Value.okWide, hu] at hval
  obtain ⟨cs, rfl, _, _⟩ := hval
  obtain ⟨fuel, hf⟩ := hd
  obtain ⟨p, hp, hh⟩ := pa_of_trod hf
  have : cs.toList = paL p := hh
  exact ⟨p, hp, by rw [paA, ← this]⟩
theorem open_en {r : Reach} {b0 : Nat} {v : Value} {d : DataW H} {ps : List MemPlace} (hval : Value.okWide Try.prog w r b0 33 v) (hd : DataW.Trod enc Try.prog w base spare held 33 v d ps) : ∃ p : En, p.ok ∧ v = .agg (enA p) := by
  have hu := Try.underlying33
  simp only [Value.okWide, hu] at hval
  obtain ⟨cs, rfl, _, _⟩ := hval
  obtain ⟨fuel, hf⟩ := hd
  obtain ⟨p, hp, hh⟩ := en_of_trod hf
  have : cs.toList = enL p := hh
  exact ⟨p, hp, by rw [enA, ← this]⟩
/-- A slice of structs, opened. -/
theorem open_any {α : Type} (E : α → List Value) (ok : α → Prop) (z : α) (t e sz : Nat) (hsz : ∀ x, (E x).length = sz) (hone : ∀ x, ∀ v ∈ E x, v.oneCell' = true) (hpos : 0 < sz) (hu : Try.prog.underlying t = some (.slice e)) (hc : Try.prog.cellsOf e = sz)
    (hE : ∀ {fuel : Nat} {l : List Value} {x : DataW H × List MemPlace}, DataW.trod enc Try.prog w base spare held fuel e l = some x → ∃ p : α, ok p ∧ l = E p)
    {v : Value} {d : DataW H} {ps : List MemPlace} (hd : DataW.Trod enc Try.prog w base spare held t v d ps) (hv : v.cells.toList = [v]) :
    ∃ ao cap l, v = .slice ao (List.length l) cap ∧ XC w sz ao cap l.length (l.flatMap E) ∧ (∀ x ∈ l, ok x) ∧ l.length ≤ maxLen := by
  obtain ⟨fuel, hf⟩ := hd
  rw [hv] at hf
  rcases DataW.trod_slice hu hf with ⟨h0, _⟩ | ⟨a, len, cap, elems, rest, n, _, h0, _, hb, hl, hm, hlen, hel, _, _⟩
  · simp only [List.cons.injEq, and_true] at h0
    exact ⟨none, 0, [], h0, XC.nil w sz, fun _ h => by (cases h), Nat.zero_le _⟩
  · simp only [List.cons.injEq, and_true] at h0
    have key : ∀ i, ∃ x, i < len → ok x ∧ w.cells? base (a.add (i * sz)) sz = some (E x) := fun i => by
      by_cases hi : i < len
      · have h1 := hel i hi
        rw [List.getElem?_eq_getElem (by omega), hc] at h1
        cases hcc : w.cells? base (a.add (i * sz)) sz with
        | none => rw [hcc] at h1; cases h1
        | some lst =>
          rw [hcc] at h1
          obtain ⟨x, hx, hh⟩ := hE h1
          exact ⟨x, fun _ => ⟨hx, by rw [hh]⟩⟩
      · exact ⟨z, fun h => absurd h hi⟩
    obtain ⟨f, hfun⟩ := Classical.axiomOfChoice key
    have hlen' : ((List.range len).map f).length = len := by simp
    refine ⟨some a, cap, (List.range len).map f, by rw [hlen']; exact h0, ⟨flx_len hsz _, by rw [hlen']; exact hl, fun h => (by cases h), fun ad ha j u hu => ?_, fun u hu => ?_⟩, fun x hx => ?_, by rw [hlen']; omega⟩
    · cases ha
      have hj := (List.getElem?_eq_some_iff.1 hu).1
      rw [flx_len hsz, hlen'] at hj
      have hq : j / sz < len := Nat.div_lt_of_lt_mul (by rw [Nat.mul_comm]; exact hj)
      have hr : j % sz < sz := Nat.mod_lt _ hpos
      have ej : j / sz * sz + j % sz = j := by rw [Nat.mul_comm]; exact Nat.div_add_mod j sz
      have h2 := flx_cell hsz z ((List.range len).map f) (j / sz) (by rw [hlen']; exact hq) (j % sz) hr
      rw [ej, hu] at h2
      have hg : ((List.range len).map f).getD (j / sz) z = f (j / sz) := by
        rw [List.getD_eq_getElem?_getD, List.getElem?_map, List.getElem?_range hq]
        rfl
      rw [hg] at h2
      have hcc := (World.cells?_some (hfun (j / sz) hq).2).2.2 (j % sz) hr
      rw [add_add, ej] at hcc
      rw [hcc]
      exact h2.symm
    · obtain ⟨x, _, hx⟩ := List.mem_flatMap.1 hu
      exact hone x u hx
    · obtain ⟨i, hi, rfl⟩ := List.mem_map.1 hx
      exact (hfun i (List.mem_range.1 hi)).1
theorem open_rowE {r : Reach} {b0 : Nat} {v : Value} {d : DataW H} {ps : List MemPlace} (hval : Value.okWide Try.prog w r b0 41 v) (hd : DataW.Trod enc Try.prog w base spare held 41 v d ps) :
    ∃ ao cap l, v = .slice ao (List.length l) cap ∧ RE w ao cap l ∧ l.length ≤ maxLen := by
  obtain ⟨a0, len0, cap0, rfl⟩ := okWide_slice Try.underlying41 hval
  obtain ⟨ao, cap, l, h1, h2, h3, h4⟩ := open_any enL En.ok zE 41 33 51 enL_len enL_one (by decide) Try.underlying41 cells33 en_of_trod hd rfl
  exact ⟨ao, cap, l, h1, ⟨h2, h3⟩, h4⟩
theorem open_rowO {r : Reach} {b0 : Nat} {v : Value} {d : DataW H} {ps : List MemPlace} (hval : Value.okWide Try.prog w r b0 22 v) (hd : DataW.Trod enc Try.prog w base spare held 22 v d ps) :
    ∃ ao cap l, v = .slice ao (List.length l) cap ∧ RQ w ao cap l ∧ l.length ≤ maxLen := by
  obtain ⟨a0, len0, cap0, rfl⟩ := okWide_slice Try.underlying22 hval
  obtain ⟨ao, cap, l, h1, h2, h3, h4⟩ := open_any opL Oq.ok zO 22 35 53 opL_len opL_one (by decide) Try.underlying22 cells35 op_of_trod hd rfl
  exact ⟨ao, cap, l, h1, ⟨h2, h3⟩, h4⟩
end
end Go.Proofs.Ytgfjclcnolnioaa
