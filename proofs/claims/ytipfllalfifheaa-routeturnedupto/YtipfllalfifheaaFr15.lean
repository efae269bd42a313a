/- Places, rows of entries, and choices as arguments; what the bound on bulk gives. -/
import Derived.Test.YtipfllalfifheaaRows
import Derived.Test.YtipfllalfifheaaR2
import Derived.Test.YtipfllalfifheaaFr
import Derived.ProofKit
namespace Go.Proofs.Ytipfllalfifheaa
open Go.ChangeShapes Go.WideShapes Go.ChangeAt Go.RowKit

theorem cells3 : Try.prog.cellsOf 3 = 1 := by kernel_rfl
theorem cells4 : Try.prog.cellsOf 4 = 1 := by kernel_rfl
theorem cellsE : Try.prog.cellsOf 57 = 51 := by kernel_rfl
theorem cellsN : Try.prog.cellsOf 55 = 17 := by kernel_rfl
theorem cellsC : Try.prog.cellsOf 40 = 35 := by kernel_rfl
theorem cellsP : Try.prog.cellsOf 27 = 18 := by kernel_rfl
theorem cellsRN : Try.prog.cellsOf 24 = 1 := by kernel_rfl
theorem cellsRE : Try.prog.cellsOf 25 = 1 := by kernel_rfl
theorem I64.of {x : Int} (h : (Lit.int .i64 x).wf = true) : I64 x := by
  have e1 : IntKind.i64.min = -9223372036854775808 := rfl
  have e2 : IntKind.i64.max = 9223372036854775807 := rfl
  simp [Lit.wf, e1, e2] at h
  unfold I64
  omega
theorem cut2 (l : List Value) (a b : Nat) (h : l.length = a + b) : l = (l.drop 0).take a ++ (l.drop a).take b := by
  rw [List.drop_zero]
  have e1 : (l.drop a).take b = l.drop a := List.take_of_length_le (by rw [List.length_drop]; omega)
  rw [e1, List.take_append_drop]
theorem cut5 (l : List Value) (h : l.length = 51) : l = (l.drop 0).take 17 ++ ((l.drop 17).take 16 ++ ((l.drop 33).take 16 ++ ((l.drop 49).take 1 ++ (l.drop 50).take 1))) := by
  rw [List.drop_zero]
  have e1 : (l.drop 50).take 1 = l.drop 50 := List.take_of_length_le (by rw [List.length_drop]; omega)
  have e2 : (l.drop 49).take 1 ++ l.drop 50 = l.drop 49 := by rw [show 50 = 49 + 1 from rfl, ← List.drop_drop, List.take_append_drop]
  have e3 : (l.drop 33).take 16 ++ l.drop 49 = l.drop 33 := by rw [show 49 = 33 + 16 from rfl, ← List.drop_drop, List.take_append_drop]
  have e4 : (l.drop 17).take 16 ++ l.drop 33 = l.drop 17 := by rw [show 33 = 17 + 16 from rfl, ← List.drop_drop, List.take_append_drop]
  rw [e1, e2, e3, e4, List.take_append_drop]
theorem cut4 (l : List Value) (h : l.length = 35) : l = (l.drop 0).take 16 ++ ((l.drop 16).take 1 ++ ((l.drop 17).take 17 ++ (l.drop 34).take 1)) := by
  rw [List.drop_zero]
  have e1 : (l.drop 34).take 1 = l.drop 34 := List.take_of_length_le (by rw [List.length_drop]; omega)
  have e2 : (l.drop 17).take 17 ++ l.drop 34 = l.drop 17 := by rw [show 34 = 17 + 17 from rfl, ← List.drop_drop, List.take_append_drop]
  have e3 : (l.drop 16).take 1 ++ l.drop 17 = l.drop 16 := by rw [show 17 = 16 + 1 from rfl, ← List.drop_drop, List.take_append_drop]
  rw [e1, e2, e3, List.take_append_drop]
theorem cut18 (l : List Value) (h : l.length = 18) : l = (l.drop 0).take 16 ++ ((l.drop 16).take 1 ++ (l.drop 17).take 1) := by
  rw [List.drop_zero]
  have e1 : (l.drop 17).take 1 = l.drop 17 := List.take_of_length_le (by rw [List.length_drop]; omega)
  have e2 : (l.drop 16).take 1 ++ l.drop 17 = l.drop 16 := by rw [show 17 = 16 + 1 from rfl, ← List.drop_drop, List.take_append_drop]
  rw [e1, e2, List.take_append_drop]
section
variable {H : Type} {enc : TypeId × Value → H} {w : World} {base : Nat} {spare : Nat → Bool} {held : Bool}
theorem bulk_one (d : DataW H) : 1 ≤ Rows.uptoBulk d := by
  cases d <;> first | (simp [Rows.uptoBulk]; done) | (rename_i l; cases l <;> simp [Rows.uptoBulk])
theorem bulk_len : ∀ l : List (DataW H), l.length ≤ Rows.uptoBulkAll l
  | [] => by simp
  | x :: r => by
    have := bulk_one x
    have := bulk_len r
    simp only [Rows.uptoBulkAll, List.length_cons]
    omega
theorem bulk_two : ∀ l : List (DataW H), (∀ x ∈ l, 2 ≤ Rows.uptoBulk x) → 2 * l.length ≤ Rows.uptoBulkAll l
  | [], _ => by simp
  | x :: r, h => by
    have h1 := h x List.mem_cons_self
    have h2 := bulk_two r fun y hy => h y (List.mem_cons_of_mem _ hy)
    simp only [Rows.uptoBulkAll, List.length_cons]
    omega
theorem agg_two {xs : List (DataW H × List MemPlace)} (h : 1 ≤ xs.length) : 2 ≤ Rows.uptoBulk (.agg (xs.map (·.1))) := by
  have := bulk_len (xs.map (·.1))
  rw [List.length_map] at this
  simp only [Rows.uptoBulk]
  omega
theorem bulk_bound {ds : List (DataW H)} (hk : Rows.uptoSmall H ds = true) : Rows.uptoBulkAll ds ≤ 1048576 := of_decide_eq_true hk
theorem pa_of_trod {fuel : Nat} {l : List Value} {x : DataW H × List MemPlace} (h : DataW.trod enc Try.prog w base spare held fuel 38 l = some x) : ∃ p : Pa, p.ok ∧ l = paL p := by
  obtain ⟨xs, n, rfl, hx, hl, hxl, hf⟩ := DataW.trod_struct Try.underlying38 h
  have hxl2 : xs.length = 2 := hxl
  have h0 : DataW.trod enc Try.prog w base spare held n 23 ((l.drop 0).take (Try.prog.cellsOf 23)) = xs[0]? := hf 0 _ rfl
  rw [cells29', List.getElem?_eq_getElem (by omega)] at h0
  have h1 : DataW.trod enc Try.prog w base spare held n 2 ((l.drop 16).take (Try.prog.cellsOf 2)) = xs[1]? := hf 1 _ rfl
  rw [cells2', List.getElem?_eq_getElem (by omega)] at h1
  rw [cells31] at hl
  obtain ⟨u, hu, e0⟩ := id_of_trod h0
  obtain ⟨m, e1, _, wf1⟩ := DataW.trod_int Try.underlying2 h1
  refine ⟨⟨u, m⟩, ⟨hu, I64.of wf1⟩, ?_⟩
  rw [cut2 l 16 1 hl, e0, e1]
  rfl
theorem en_of_trod {fuel : Nat} {l : List Value} {x : DataW H × List MemPlace} (h : DataW.trod enc Try.prog w base spare held fuel 57 l = some x) : ∃ p : En, p.ok ∧ l = enL p := by
  obtain ⟨xs, n, rfl, hx, hl, hxl, hf⟩ := DataW.trod_struct Try.underlying57 h
  have hxl2 : xs.length = 5 := hxl
  have h0 : DataW.trod enc Try.prog w base spare held n 38 ((l.drop 0).take (Try.prog.cellsOf 38)) = xs[0]? := hf 0 _ rfl
  rw [cells31, List.getElem?_eq_getElem (by omega)] at h0
  have h1 : DataW.trod enc Try.prog w base spare held n 23 ((l.drop 17).take (Try.prog.cellsOf 23)) = xs[1]? := hf 1 _ rfl
  rw [cells29', List.getElem?_eq_getElem (by omega)] at h1
  have h2 : DataW.trod enc Try.prog w base spare held n 23 ((l.drop 33).take (Try.prog.cellsOf 23)) = xs[2]? := hf 2 _ rfl
  rw [cells29', List.getElem?_eq_getElem (by omega)] at h2
  have h3 : DataW.trod enc Try.prog w base spare held n 3 ((l.drop 49).take (Try.prog.cellsOf 3)) = xs[3]? := hf 3 _ rfl
  rw [cells3, List.getElem?_eq_getElem (by omega)] at h3
  have h4 : DataW.trod enc Try.prog w base spare held n 3 ((l.drop 50).take (Try.prog.cellsOf 3)) = xs[4]? := hf 4 _ rfl
  rw [cells3, List.getElem?_eq_getElem (by omega)] at h4
  rw [cellsE] at hl
  obtain ⟨p, hp, e0⟩ := pa_of_trod h0
  obtain ⟨a, ha, e1⟩ := id_of_trod h1
  obtain ⟨b, hb, e2⟩ := id_of_trod h2
  obtain ⟨m, e3, _, wf3⟩ := DataW.trod_int Try.underlying3 h3
  obtain ⟨k, e4, _, wf4⟩ := DataW.trod_int Try.underlying3 h4
  refine ⟨⟨p, a, b, m, k⟩, ⟨hp, ha, hb, I64.of wf3, I64.of wf4⟩, ?_⟩
  rw [cut5 l hl, e0, e1, e2, e3, e4]
  rfl
theorem en_two {fuel : Nat} {l : List Value} {x : DataW H × List MemPlace} (h : DataW.trod enc Try.prog w base spare held fuel 57 l = some x) : (∃ p : En, p.ok ∧ l = enL p) ∧ 2 ≤ Rows.uptoBulk x.1 := by
  refine ⟨en_of_trod h, ?_⟩
  obtain ⟨xs, n, rfl, hx, hl, hxl, hf⟩ := DataW.trod_struct Try.underlying57 h
  have hxl2 : xs.length = 5 := hxl
  rw [hx]
  exact agg_two (by omega)
theorem nr_two {fuel : Nat} {l : List Value} {x : DataW H × List MemPlace} (h : DataW.trod enc Try.prog w base spare held fuel 55 l = some x) : (∃ p : Nr, p.ok ∧ l = nrL p) ∧ 2 ≤ Rows.uptoBulk x.1 := by
  obtain ⟨xs, n, rfl, hx, hl, hxl, hf⟩ := DataW.trod_struct Try.underlying55 h
  have hxl2 : xs.length = 2 := hxl
  have h0 : DataW.trod enc Try.prog w base spare held n 3 ((l.drop 0).take (Try.prog.cellsOf 3)) = xs[0]? := hf 0 _ rfl
  rw [cells3, List.getElem?_eq_getElem (by omega)] at h0
  have h1 : DataW.trod enc Try.prog w base spare held n 23 ((l.drop 1).take (Try.prog.cellsOf 23)) = xs[1]? := hf 1 _ rfl
  rw [cells29', List.getElem?_eq_getElem (by omega)] at h1
  rw [cellsN] at hl
  obtain ⟨m, e0, _, wf0⟩ := DataW.trod_int Try.underlying3 h0
  obtain ⟨u, hu, e1⟩ := id_of_trod h1
  refine ⟨⟨⟨m, u⟩, ⟨I64.of wf0, hu⟩, ?_⟩, ?_⟩
  · rw [cut2 l 1 16 hl, e0, e1]
    rfl
  · rw [hx]
    exact agg_two (by omega)
theorem ch_of_trod {fuel : Nat} {l : List Value} {x : DataW H × List MemPlace} (h : DataW.trod enc Try.prog w base spare held fuel 40 l = some x) : ∃ p : Ch, p.ok ∧ l = chL p := by
  obtain ⟨xs, n, rfl, hx, hl, hxl, hf⟩ := DataW.trod_struct Try.underlying40 h
  have hxl2 : xs.length = 4 := hxl
  have h0 : DataW.trod enc Try.prog w base spare held n 23 ((l.drop 0).take (Try.prog.cellsOf 23)) = xs[0]? := hf 0 _ rfl
  rw [cells29', List.getElem?_eq_getElem (by omega)] at h0
  have h1 : DataW.trod enc Try.prog w base spare held n 4 ((l.drop 16).take (Try.prog.cellsOf 4)) = xs[1]? := hf 1 _ rfl
  rw [cells4, List.getElem?_eq_getElem (by omega)] at h1
  have h2 : DataW.trod enc Try.prog w base spare held n 38 ((l.drop 17).take (Try.prog.cellsOf 38)) = xs[2]? := hf 2 _ rfl
  rw [cells31, List.getElem?_eq_getElem (by omega)] at h2
  have h3 : DataW.trod enc Try.prog w base spare held n 3 ((l.drop 34).take (Try.prog.cellsOf 3)) = xs[3]? := hf 3 _ rfl
  rw [cells3, List.getElem?_eq_getElem (by omega)] at h3
  rw [cellsC] at hl
  obtain ⟨u, hu, e0⟩ := id_of_trod h0
  obtain ⟨b, e1, _⟩ := DataW.trod_bool Try.underlying4 h1
  obtain ⟨p, hp, e2⟩ := pa_of_trod h2
  obtain ⟨m, e3, _, wf3⟩ := DataW.trod_int Try.underlying3 h3
  refine ⟨⟨u, b, p, m⟩, ⟨hu, hp, I64.of wf3⟩, ?_⟩
  rw [cut4 l hl, e0, e1, e2, e3]
  rfl
set_option maxRecDepth 100000 in
theorem open_ch {r : Reach} {b0 : Nat} {v : Value} {d : DataW H} {ps : List MemPlace} (hval : Value.okWide Try.prog w r b0 40 v) (hd : DataW.Trod enc Try.prog w base spare held 40 v d ps) : ∃ p : Ch, p.ok ∧ v = .agg (chA p) := by
  have hu := Try.underlying40
  simp only [Value.okWide, hu] at hval
  obtain ⟨cs, rfl, _, _⟩ := hval
  obtain ⟨fuel, hf⟩ := hd
  obtain ⟨p, hp, hh⟩ := ch_of_trod hf
  have : cs.toList = chL p := hh
  exact ⟨p, hp, by rw [chA, ← this]⟩
/-- A slice of structs, opened. -/
theorem open_rowF {α : Type} (E : α → List Value) (ok : α → Prop) (z : α) (t e sz : Nat) (hsz : ∀ x, (E x).length = sz) (hone : ∀ x, ∀ v ∈ E x, v.oneCell' = true) (hpos : 0 < sz) (hu : Try.prog.underlying t = some (.slice e)) (hc : Try.prog.cellsOf e = sz)
    (hE : ∀ {fuel : Nat} {l : List Value} {x : DataW H × List MemPlace}, DataW.trod enc Try.prog w base spare held fuel e l = some x → (∃ p : α, ok p ∧ l = E p) ∧ 2 ≤ Rows.uptoBulk x.1)
    {fuel : Nat} {cs : List Value} {x : DataW H × List MemPlace} (hf : DataW.trod enc Try.prog w base spare held fuel t cs = some x) :
    ∃ ao cap l, cs = [.slice ao (List.length l) cap] ∧ XC w sz ao cap l.length (l.flatMap E) ∧ (∀ x ∈ l, ok x) ∧ 2 * l.length ≤ Rows.uptoBulk x.1 := by
  rcases DataW.trod_slice hu hf with ⟨h0, _⟩ | ⟨a, len, cap, elems, rest, n, _, h0, hx, hb, hl, hm, hlen, hel, _, _⟩
  · exact ⟨none, 0, [], h0, XC.nil w sz, fun _ h => by (cases h), Nat.zero_le _⟩
  · have key : ∀ i, ∃ x, i < len → (ok x ∧ w.cells? base (a.add (i * sz)) sz = some (E x)) ∧ ∀ y, elems[i]? = some y → 2 ≤ Rows.uptoBulk y.1 := fun i => by
      by_cases hi : i < len
      · have h1 := hel i hi
        rw [List.getElem?_eq_getElem (by omega), hc] at h1
        cases hcc : w.cells? base (a.add (i * sz)) sz with
        | none => rw [hcc] at h1; cases h1
        | some lst =>
          rw [hcc] at h1
          obtain ⟨⟨x, hx, hh⟩, h2⟩ := hE h1
          refine ⟨x, fun _ => ⟨⟨hx, by rw [hh]⟩, fun y hy => ?_⟩⟩
          rw [List.getElem?_eq_getElem (by omega)] at hy
          cases hy
          exact h2
      · exact ⟨z, fun h => absurd h hi⟩
    obtain ⟨f, hfun⟩ := Classical.axiomOfChoice key
    have hlen' : ((List.range len).map f).length = len := by simp
    have hbk : 2 * len ≤ Rows.uptoBulk x.1 := by
      have h2 := bulk_two (elems.map (·.1)) fun y hy => by
        obtain ⟨q, hq, rfl⟩ := List.mem_map.1 hy
        obtain ⟨i, hi, rfl⟩ := List.getElem_of_mem hq
        exact (hfun i (by omega)).2 _ (List.getElem?_eq_getElem hi)
      rw [List.length_map, hlen] at h2
      rw [hx]
      simp only [Rows.uptoBulk]
      omega
    refine ⟨some a, cap, (List.range len).map f, by rw [hlen']; exact h0, ⟨flx_len hsz _, by rw [hlen']; exact hl, fun h => (by cases h), fun ad ha j u hu => ?_, fun u hu => ?_⟩, fun x hx => ?_, by rw [hlen']; exact hbk⟩
    · cases ha
      have hj := (List.getElem?_eq_some_iff.1 hu).1
      rw [flx_len hsz, hlen'] at hj
      have hq : j / sz < len := Nat.div_lt_of_lt_mul (by rw [Nat.mul_comm]; exact hj)
      have hr : j % sz < sz := Nat.mod_lt _ hpos
      have ej : j / sz * sz + j % sz = j := by rw [Nat.mul_comm]; exact Nat.div_add_mod j sz
      have h2 := flx_cell hsz z ((List.range len).map f) (j / sz) (by rw [hlen']; exact hq) (j % sz) hr
      rw [ej, hu] at h2
      have hg : ((List.range len).map f).getD (j / sz) z = f (j / sz) := by
        rw [List.getD_eq_getElem?_getD, List.getElem?_map, List.getElem?_range hq]
        rfl
      rw [hg] at h2
      have hcc := (World.cells?_some (hfun (j / sz) hq).1.2).2.2 (j % sz) hr
      rw [add_add, ej] at hcc
      rw [hcc]
      exact h2.symm
    · obtain ⟨x, _, hx⟩ := List.mem_flatMap.1 hu
      exact hone x u hx
    · obtain ⟨i, hi, rfl⟩ := List.mem_map.1 hx
      exact (hfun i (List.mem_range.1 hi)).1.1
set_option maxRecDepth 100000 in
theorem open_rowE {r : Reach} {b0 : Nat} {v : Value} {d : DataW H} {ps : List MemPlace} (hval : Value.okWide Try.prog w r b0 25 v) (hd : DataW.Trod enc Try.prog w base spare held 25 v d ps) :
    ∃ ao cap l, v = .slice ao (List.length l) cap ∧ RE w ao cap l ∧ 2 * l.length ≤ Rows.uptoBulk d := by
  obtain ⟨a0, len0, cap0, rfl⟩ := okWide_slice Try.underlying25 hval
  obtain ⟨fuel, hf⟩ := hd
  obtain ⟨ao, cap, l, h1, h2, h3, h4⟩ := open_rowF enL En.ok zE 25 57 51 enL_len enL_one (by decide) Try.underlying25 cellsE en_two hf
  refine ⟨ao, cap, l, ?_, ⟨h2, h3⟩, h4⟩
  simpa [Value.cells] using h1
set_option maxRecDepth 100000 in
theorem open_place {r : Reach} {b0 : Nat} {v : Value} {d : DataW H} {ps : List MemPlace} (hval : Value.okWide Try.prog w r b0 27 v) (hd : DataW.Trod enc Try.prog w base spare held 27 v d ps) :
    ∃ s an cn N ae ce E, s < top ∧ v = .agg (plA s an (List.length N) cn ae (List.length E) ce) ∧ RK kN w an cn N ∧ RE w ae ce E ∧ 2 * N.length + 2 * E.length ≤ Rows.uptoBulk d := by
  have hu := Try.underlying27
  simp only [Value.okWide, hu] at hval
  obtain ⟨cs, rfl, _, _⟩ := hval
  obtain ⟨fuel, hf⟩ := hd
  have hf' : DataW.trod enc Try.prog w base spare held fuel 27 cs.toList = some (d, ps) := hf
  obtain ⟨xs, n, rfl, hx, hl, hxl, hff⟩ := DataW.trod_struct Try.underlying27 hf'
  have hxl2 : xs.length = 3 := hxl
  have h0 : DataW.trod enc Try.prog w base spare held n 23 ((cs.toList.drop 0).take (Try.prog.cellsOf 23)) = xs[0]? := hff 0 _ rfl
  have h1 : DataW.trod enc Try.prog w base spare held n 24 ((cs.toList.drop 16).take (Try.prog.cellsOf 24)) = xs[1]? := hff 1 _ rfl
  have h2 : DataW.trod enc Try.prog w base spare held n 25 ((cs.toList.drop 17).take (Try.prog.cellsOf 25)) = xs[2]? := hff 2 _ rfl
  obtain ⟨y0, y1, y2, rfl⟩ : ∃ a b c, xs = [a, b, c] := by
    match xs, hxl2 with
    | [a, b, c], _ => exact ⟨a, b, c, rfl⟩
  rw [cells29'] at h0
  rw [cellsRN] at h1
  rw [cellsRE] at h2
  rw [cellsP] at hl
  obtain ⟨s, hs, e0⟩ := id_of_trod (show _ = some y0 from h0)
  obtain ⟨an, cn, N, e1, n1, n2, n3⟩ := open_rowF nrL Nr.ok zN 24 55 17 nrL_len nrL_one (by decide) Try.underlying24 cellsN nr_two (show _ = some y1 from h1)
  obtain ⟨ae, ce, E, e2, m1, m2, m3⟩ := open_rowF enL En.ok zE 25 57 51 enL_len enL_one (by decide) Try.underlying25 cellsE en_two (show _ = some y2 from h2)
  refine ⟨s, an, cn, N, ae, ce, E, hs, ?_, ⟨n1, n2⟩, ⟨m1, m2⟩, ?_⟩
  · have : cs.toList = (idA s).toList ++ [Value.slice an N.length cn, Value.slice ae E.length ce] := by
      rw [cut18 cs.toList hl, e0, e1, e2]
      rfl
    rw [plA, ← this]
  · have hd : d = .agg [y0.1, y1.1, y2.1] := congrArg Prod.fst hx
    rw [hd]
    simp only [Rows.uptoBulk, Rows.uptoBulkAll]
    omega
end
end Go.Proofs.Ytipfllalfifheaa
