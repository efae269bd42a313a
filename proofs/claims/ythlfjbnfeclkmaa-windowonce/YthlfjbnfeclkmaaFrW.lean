/- Arguments that are scripts of what happens, opened. -/
import Derived.Test.YthlfjbnfeclkmaaFr5
import Derived.Test.YthlfjbnfeclkmaaX1
namespace Go.Proofs.Ythlfjbnfeclkmaa
open Go.ChangeShapes Go.WideShapes Go.ChangeAt Go.RowKit

/-- What happens: a kind and a number. -/
def wayV (y : Int × Int) : List Value := [.int .i64 y.1, .int .i64 y.2]
theorem cells49 : Try.prog.cellsOf 49 = 2 := by kernel_rfl
theorem bytes49 : Try.prog.bytesOf 49 = 16 := by kernel_rfl
theorem flatY_get : ∀ (os : List (Int × Int)) (m : Nat) (v : Value), (os.flatMap wayV)[m]? = some v → ∃ o, os[m / 2]? = some o ∧ (wayV o)[m % 2]? = some v
  | [], m, v, h => by simp at h
  | x :: os, m, v, h => by
    rw [List.flatMap_cons] at h
    by_cases hm : m < 2
    · rw [List.getElem?_append_left (by simpa [wayV] using hm)] at h
      exact ⟨x, by rw [Nat.div_eq_of_lt hm]; rfl, by rw [Nat.mod_eq_of_lt hm]; exact h⟩
    · rw [List.getElem?_append_right (by simp [wayV]; omega)] at h
      have hl : (wayV x).length = 2 := rfl
      rw [hl] at h
      obtain ⟨o, h1, h2⟩ := flatY_get os (m - 2) v h
      refine ⟨o, ?_, ?_⟩
      · have : m / 2 = (m - 2) / 2 + 1 := by omega
        rw [this, List.getElem?_cons_succ]
        exact h1
      · have : m % 2 = (m - 2) % 2 := by omega
        rw [this]
        exact h2
theorem flatY_len : ∀ (os : List (Int × Int)), (os.flatMap wayV).length = os.length * 2
  | [] => rfl
  | x :: os => by
    rw [List.flatMap_cons, List.length_append, flatY_len os, List.length_cons]
    have hl : (wayV x).length = 2 := rfl
    omega
section
variable {H : Type} {enc : TypeId × Value → H} {w : World} {base : Nat} {spare : Nat → Bool} {held : Bool}
set_option maxRecDepth 100000 in
theorem way_of_trod {fuel : Nat} {cs : List Value} {x : DataW H × List MemPlace} (h : DataW.trod enc Try.prog w base spare held fuel 49 cs = some x) : ∃ q : Int × Int, cs = wayV q := by
  obtain ⟨xs, n, rfl, hx, hl, hxl, hf⟩ := DataW.trod_struct Try.underlying49 h
  have h0 := hf 0 _ rfl
  have h1 := hf 1 _ rfl
  have hxl3 : xs.length = 2 := hxl
  rw [cells49] at hl
  match xs, hxl3, cs, hl with
  | [x0, x1], _, [c0, c1], _ =>
    obtain ⟨k0, e0, _, _⟩ := DataW.trod_int Try.underlying3 (show DataW.trod enc Try.prog w base spare held n 3 [c0] = some x0 from h0)
    obtain ⟨k1, e1, _, _⟩ := DataW.trod_int Try.underlying3 (show DataW.trod enc Try.prog w base spare held n 3 [c1] = some x1 from h1)
    cases e0
    cases e1
    exact ⟨(k0, k1), rfl⟩
set_option maxRecDepth 100000 in
theorem open_ways {r : Reach} {b0 : Nat} {v : Value} {d : DataW H} {ps : List MemPlace} (hval : Value.okWide Try.prog w r b0 44 v) (hd : DataW.Trod enc Try.prog w base spare held 44 v d ps) :
    ∃ ao cap ys, v = .slice ao (List.length ys) cap ∧ XC w 2 ao cap ys.length (ys.flatMap wayV) ∧ ys.length < 9223372036854775808 := by
  obtain ⟨a0, len0, cap0, rfl⟩ := okWide_slice Try.underlying44 hval
  obtain ⟨fuel, hf⟩ := hd
  rcases DataW.trod_slice Try.underlying44 hf with ⟨hcs, hx⟩ | ⟨a, len, cap, elems, rest, n, _, hcs, hx, _, hl, hm, hel, hei, _, _⟩
  · exact ⟨none, 0, [], by simpa [Value.cells] using hcs, XC.nil _ _, by decide⟩
  · rw [cells49] at hei
    have each : ∀ i, ∃ q : Int × Int, i < len → ∀ r, r < 2 → w.cell? (a.add (i * 2 + r)) = (wayV q)[r]? := by
      intro i
      by_cases hi : i < len
      · have h1 := hei i hi
        rw [List.getElem?_eq_getElem (by omega)] at h1
        cases hc : w.cells? base (a.add (i * 2)) 2 with
        | none => rw [hc] at h1; cases h1
        | some cs =>
          rw [hc] at h1
          obtain ⟨q, h2⟩ := way_of_trod (show DataW.trod enc Try.prog w base spare held n 49 cs = some elems[i] from h1)
          refine ⟨q, fun _ r hr => ?_⟩
          have := (World.cells?_some hc).2.2 r hr
          rw [add_add, h2] at this
          exact this
      · exact ⟨(0, 0), fun h => absurd h hi⟩
    obtain ⟨f, hf2⟩ := Classical.axiomOfChoice each
    have hlen : ((List.range len).map f).length = len := by simp
    refine ⟨some a, cap, (List.range len).map f, ?_, ⟨flatY_len _, by rw [hlen]; exact hl, fun h => by (cases h), fun ad ha j v hv => ?_, fun v hv => ?_⟩, by rw [hlen]; simp only [maxLen] at hm; omega⟩
    · rw [hlen]
      simpa [Value.cells] using hcs
    · cases ha
      obtain ⟨o, h1, h2⟩ := flatY_get _ _ _ hv
      rw [List.getElem?_map] at h1
      have hj : j / 2 < len := by
        cases hq : decide (j / 2 < len)
        · rw [List.getElem?_eq_none (by simp; have := of_decide_eq_false hq; omega)] at h1
          cases h1
        · exact of_decide_eq_true hq
      rw [List.getElem?_range hj] at h1
      simp only [Option.map_some, Option.some.injEq] at h1
      have h3 := hf2 (j / 2) hj (j % 2) (Nat.mod_lt _ (by decide))
      have h4 : j / 2 * 2 + j % 2 = j := by omega
      rw [h4, h1, h2] at h3
      exact h3
    · obtain ⟨o, _, ho⟩ := List.mem_flatMap.1 hv
      simp only [wayV, List.mem_cons, List.not_mem_nil, or_false] at ho
      rcases ho with rfl | rfl <;> rfl
end
end Go.Proofs.Ythlfjbnfeclkmaa
