/- Frames: rows of texts, opened; what the bound on bulk gives. -/
import Derived.Test.YtkhbpkhkbidbdaaFr2
import Derived.Test.YtkhbpkhkbidbdaaC3
namespace Go.Proofs.Ytkhbpkhkbidbdaa
open Go.ChangeShapes Go.WideShapes Go.ChangeAt Go.RowKit

theorem cells24 : Try.prog.cellsOf 24 = 1 := by kernel_rfl
section
variable {H : Type} {enc : TypeId × Value → H} {w : World} {base : Nat} {spare : Nat → Bool} {held : Bool}
theorem bulk_one (d : DataW H) : 1 ≤ Rows.uptoBulk d := by
  cases d <;> first | (simp [Rows.uptoBulk]; done) | (rename_i l; cases l <;> simp [Rows.uptoBulk])
theorem bulk_len : ∀ l : List (DataW H), l.length ≤ Rows.uptoBulkAll l
  | [] => by simp
  | x :: r => by
    have := bulk_one x
    have := bulk_len r
    simp only [Rows.uptoBulkAll, List.length_cons]
    omega
theorem bulk_row {d : DataW H} {l : List Nat} (h : asLong d l) : l.length + 1 ≤ Rows.uptoBulk d := by
  rcases h with ⟨rfl, rfl⟩ | ⟨el, sp, rfl, hl⟩
  · simp [Rows.uptoBulk]
  · have := bulk_len el
    simp only [Rows.uptoBulk]
    omega
/-- A reading of a row of texts, one by one. -/
def Each : List (DataW H) → List (List Nat) → Prop
  | [], [] => True
  | d :: ds, l :: ls => asLong d l ∧ Each ds ls
  | _, _ => False
theorem each_len : ∀ (ds : List (DataW H)) (ls : List (List Nat)), Each ds ls → ls.length = ds.length ∧ (putT ls).length ≤ 9 * Rows.uptoBulkAll ds
  | [], [], _ => by simp [putT]
  | d :: ds, l :: ls, h => by
    have h1 := bulk_row h.1
    have h2 := each_len ds ls h.2
    have h3 := (textL_len l).1
    simp only [putT, List.flatMap_cons, List.length_append, List.length_cons, Rows.uptoBulkAll] at *
    omega
  | [], _ :: _, h => h.elim
  | _ :: _, [], h => h.elim
theorem each_of : ∀ (ds : List (DataW H)) (f : Nat → List Nat) (k : Nat), (∀ i d, ds[i]? = some d → asLong d (f (k + i))) → Each ds ((List.range' k ds.length).map f)
  | [], _, _, _ => trivial
  | d :: ds, f, k, h => by
    refine ⟨by simpa using h 0 d rfl, ?_⟩
    have := each_of ds f (k + 1) fun i x hx => by
      have := h (i + 1) x (by simpa using hx)
      rwa [show k + (i + 1) = k + 1 + i by omega] at this
    exact this
theorem open_lc {r : Reach} {b0 : Nat} {v : Value} {d : DataW H} {ps : List MemPlace} (hval : Value.okWide Try.prog w r b0 23 v) (hd : DataW.Trod enc Try.prog w base spare held 23 v d ps) :
    ∃ ao cap ls, v = .slice ao (List.length ls) cap ∧ LC w ao cap ls ∧ ls.length ≤ Rows.uptoBulk d ∧ (putT ls).length ≤ 9 * Rows.uptoBulk d := by
  obtain ⟨a0, len0, cap0, rfl⟩ := okWide_slice Try.underlying23 hval
  obtain ⟨fuel, hf⟩ := hd
  rcases DataW.trod_slice Try.underlying23 hf with ⟨hcs, hx⟩ | ⟨a, len, cap, elems, rest, n, _, hcs, hx, _, hl, _, hel, hei, _, _⟩
  · refine ⟨none, 0, [], by simpa [Value.cells] using hcs, ⟨by simp, fun _ => rfl, fun ad h => by (cases h)⟩, by simp, by simp [putT]⟩
  · rw [cells24] at hei
    have each : ∀ i, ∃ l : List Nat, i < len → ∃ ao' cap', w.cell? (a.add i) = some (.slice ao' l.length cap') ∧ NC w .u8 ao' cap' l ∧ ∀ y, elems[i]? = some y → asLong y.1 l := by
      intro i
      by_cases hi : i < len
      · have h1 := hei i hi
        rw [List.getElem?_eq_getElem (by omega), Nat.mul_one] at h1
        cases hc : w.cells? base (a.add i) 1 with
        | none => rw [hc] at h1; cases h1
        | some cs =>
          rw [hc] at h1
          obtain ⟨ao', cap', l, h2, h3, _, h4⟩ := open_row bT cells5 rfl (show DataW.trod enc Try.prog w base spare held n 24 cs = some elems[i] from h1)
          subst h2
          refine ⟨l, fun _ => ⟨ao', cap', cell_of_cells?_one hc, h3, fun y hy => ?_⟩⟩
          rw [List.getElem?_eq_getElem (by omega)] at hy
          cases hy
          exact h4
      · exact ⟨[], fun h => absurd h hi⟩
    obtain ⟨f, hf2⟩ := Classical.axiomOfChoice each
    have hxe : d = .slice (elems.map (·.1)) (rest.map (·.1)) := by
      have := congrArg Prod.fst hx
      exact this
    have hE : Each (elems.map (·.1)) ((List.range' 0 (elems.map (·.1)).length).map f) := each_of _ f 0 fun i x hx => by
      rw [List.getElem?_map] at hx
      by_cases hi : i < len
      · obtain ⟨_, _, _, _, h4⟩ := hf2 i hi
        rw [List.getElem?_eq_getElem (by omega)] at hx
        have h5 := h4 _ (List.getElem?_eq_getElem (by omega))
        rw [Nat.zero_add]
        simp only [Option.map_some, Option.some.injEq] at hx
        rw [← hx]
        exact h5
      · rw [List.getElem?_eq_none (by omega)] at hx
        cases hx
    have hLen := each_len _ _ hE
    obtain ⟨ls, hls⟩ : ∃ ls, (List.range' 0 (elems.map (·.1)).length).map f = ls := ⟨_, rfl⟩
    rw [hls] at hLen
    have hlen : ls.length = len := by rw [hLen.1, List.length_map, hel]
    have hget : ∀ j, j < len → ls.getD j [] = f j := fun j hj => by
      rw [← hls, List.getD_eq_getElem?_getD, List.getElem?_map, List.getElem?_range' (by simp; omega)]
      simp
    have hb := bulk_len (elems.map (·.1))
    have hbd : Rows.uptoBulkAll (elems.map (·.1)) ≤ Rows.uptoBulk d := by
      rw [hxe]
      simp only [Rows.uptoBulk]
      omega
    refine ⟨some a, cap, ls, by rw [hlen]; simpa [Value.cells] using hcs, ⟨by omega, fun h => by (cases h), fun ad ha j hj => ?_⟩, by rw [hLen.1]; omega, by omega⟩
    cases ha
    obtain ⟨ao', cap', h1, h2, _⟩ := hf2 j (by omega)
    rw [hget j (by omega)]
    exact ⟨ao', cap', h1, h2⟩
theorem bulk_bound {ds : List (DataW H)} (hk : Rows.uptoSmall H ds = true) : Rows.uptoBulkAll ds ≤ 1048576 := of_decide_eq_true hk
end
end Go.Proofs.Ytkhbpkhkbidbdaa
