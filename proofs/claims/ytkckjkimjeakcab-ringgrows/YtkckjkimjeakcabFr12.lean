/- Identities and rows of them as arguments. -/
import Derived.Test.YtkckjkimjeakcabJ2
import Derived.Test.YtkckjkimjeakcabFr
import Derived.ProofKit
namespace Go.Proofs.Ytkckjkimjeakcab
open Go.ChangeShapes Go.WideShapes Go.ChangeAt Go.RowKit

theorem cells25 : Try.prog.cellsOf 25 = 32 := by kernel_rfl
theorem parts2 (l x y : List Value) (hl : l.length = 32) (h1 : (l.drop (0 * 16)).take 16 = x) (h2 : (l.drop (1 * 16)).take 16 = y) : l = x ++ y := by
  subst h1 h2
  have e1 : List.drop (0 * 16) l = l := by simp
  have e3 : (l.drop 16).take 16 = l.drop 16 := List.take_of_length_le (by simp; omega)
  rw [e1, show 1 * 16 = 16 from rfl, e3, List.take_append_drop]
theorem of_two_lists {cs x y : Array Value} (h : cs.toList = x.toList ++ y.toList) : cs = x ++ y := by
  apply Array.toList_inj.1
  rw [Array.toList_append, h]
theorem two_of_list {cs : Array Value} {a b : Nat} (h : cs.toList = (idA a).toList ++ (idA b).toList) : cs = twoA a b := of_two_lists h
section
variable {H : Type} {enc : TypeId × Value → H} {w : World} {spare : Nat → Bool} {held : Bool}
theorem open_two {base : Nat} {r : Reach} {b0 : Nat} {v : Value} {d : DataW H} {ps : List MemPlace} (hval : Value.okWide Try.prog w r b0 25 v) (hd : DataW.Trod enc Try.prog w base spare held 25 v d ps) :
    ∃ a b, a < top ∧ b < top ∧ v = twoV a b := by
  have hu := Try.underlying25
  simp only [Value.okWide, hu] at hval
  obtain ⟨cs, rfl, _, _⟩ := hval
  obtain ⟨fuel, hf⟩ := hd
  obtain ⟨xs, m, _, _, hl, hx, he⟩ := DataW.trod_array Try.underlying25 hf
  have hl' : cs.toList.length = 32 := by rw [← cells25]; exact hl
  have key : ∀ i, i < 2 → ∃ n, n < top ∧ (cs.toList.drop (i * 16)).take 16 = (idA n).toList := fun i hi => by
    have h1 := he i hi
    rw [List.getElem?_eq_getElem (by omega), cells24] at h1
    exact id_of_trod h1
  obtain ⟨a, ha, h1⟩ := key 0 (by omega)
  obtain ⟨b, hb, h2⟩ := key 1 (by omega)
  have h4 := parts2 _ _ _ hl' h1 h2
  have h5 : cs = twoA a b := two_of_list h4
  exact ⟨a, b, ha, hb, congrArg Value.agg h5⟩
theorem cells_rowI {a : Addr} {n : Nat} {l : List Value} {base : Nat} (h : w.cells? base a n = some l) : ∀ r, r < n → w.cell? (a.add r) = l[r]? := by
  intro r hr
  unfold World.cells? at h
  split at h
  · exact mapM_some_get h r r (by simp [hr])
  · cases h
/-- A slice of identities, opened. -/
theorem open_ids {v : Value} {d : DataW H} {ps : List MemPlace} (hd : DataW.Trod enc Try.prog w 0 spare held 22 v d ps) (hv : v.cells.toList = [v]) :
    ∃ ao cap l, v = .slice ao l.length cap ∧ RC w ao cap l := by
  obtain ⟨fuel, hf⟩ := hd
  rw [hv] at hf
  rcases DataW.trod_slice Try.underlying22 hf with ⟨h0, _⟩ | ⟨a, len, cap, elems, rest, n, _, h0, _, hb, hl, hm, hlen, hel, _, _⟩
  · simp only [List.cons.injEq, and_true] at h0
    exact ⟨none, 0, [], h0, RC.nil w⟩
  · simp only [List.cons.injEq, and_true] at h0
    have key : ∀ i, ∃ x, i < len → x < top ∧ w.cells? 0 (a.add (i * 16)) 16 = some (idA x).toList := fun i => by
      by_cases hi : i < len
      · have h1 := hel i hi
        rw [List.getElem?_eq_getElem (by omega), cells24] at h1
        cases hc : w.cells? 0 (a.add (i * 16)) 16 with
        | none => rw [hc] at h1; cases h1
        | some lst =>
          rw [hc] at h1
          obtain ⟨x, hx, hh⟩ := id_of_trod h1
          exact ⟨x, fun _ => ⟨hx, by rw [hh]⟩⟩
      · exact ⟨0, fun h => absurd h hi⟩
    obtain ⟨f, hfun⟩ := Classical.axiomOfChoice key
    have hlen' : ((List.range len).map f).length = len := by simp
    refine ⟨some a, cap, (List.range len).map f, by rw [hlen']; exact h0, ⟨⟨fl_len _, by rw [hlen']; omega, fun h => (by cases h), fun ad ha j u hu => ?_, fl_one⟩, fun x hx => ?_⟩⟩
    · cases ha
      have hj := (List.getElem?_eq_some_iff.1 hu).1
      rw [fl_len, hlen'] at hj
      rw [fl_get _ j (by rw [hlen']; exact hj)] at hu
      have hg : ((List.range len).map f).getD (j / 16) 0 = f (j / 16) := by
        rw [List.getD_eq_getElem?_getD, List.getElem?_map, List.getElem?_range (by omega)]
        rfl
      rw [hg] at hu
      have hc := cells_rowI (hfun (j / 16) (by omega)).2 (j % 16) (by omega)
      rw [add_add, show j / 16 * 16 + j % 16 = j by omega] at hc
      rw [hc]
      exact hu
    · obtain ⟨i, hi, rfl⟩ := List.mem_map.1 hx
      exact (hfun i (List.mem_range.1 hi)).1
end
end Go.Proofs.Ytkckjkimjeakcab
