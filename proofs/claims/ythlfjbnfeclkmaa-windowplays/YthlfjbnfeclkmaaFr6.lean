/- Arguments that are scripts of calls, opened. -/
import Derived.Test.YthlfjbnfeclkmaaFr5
import Derived.Test.YthlfjbnfeclkmaaU5
namespace Go.Proofs.Ythlfjbnfeclkmaa
open Go.ChangeShapes Go.WideShapes Go.ChangeAt Go.RowKit

theorem cells32 : Try.prog.cellsOf 32 = 3 := by kernel_rfl
theorem bytes32 : Try.prog.bytesOf 32 = 40 := by kernel_rfl
theorem flatQ_get : ∀ (os : List OpQ) (m : Nat) (v : Value), (os.flatMap opQ)[m]? = some v → ∃ o, os[m / 3]? = some o ∧ (opQ o)[m % 3]? = some v
  | [], m, v, h => by simp at h
  | x :: os, m, v, h => by
    rw [List.flatMap_cons] at h
    by_cases hm : m < 3
    · rw [List.getElem?_append_left (by simpa [opQ] using hm)] at h
      exact ⟨x, by rw [Nat.div_eq_of_lt hm]; rfl, by rw [Nat.mod_eq_of_lt hm]; exact h⟩
    · rw [List.getElem?_append_right (by simp [opQ]; omega)] at h
      have hl : (opQ x).length = 3 := rfl
      rw [hl] at h
      obtain ⟨o, h1, h2⟩ := flatQ_get os (m - 3) v h
      refine ⟨o, ?_, ?_⟩
      · have : m / 3 = (m - 3) / 3 + 1 := by omega
        rw [this, List.getElem?_cons_succ]
        exact h1
      · have : m % 3 = (m - 3) % 3 := by omega
        rw [this]
        exact h2
theorem flatQ_len : ∀ (os : List OpQ), (os.flatMap opQ).length = os.length * 3
  | [] => rfl
  | x :: os => by
    rw [List.flatMap_cons, List.length_append, flatQ_len os, List.length_cons]
    have hl : (opQ x).length = 3 := rfl
    omega
section
variable {H : Type} {enc : TypeId × Value → H} {w : World} {base : Nat} {spare : Nat → Bool} {held : Bool}
set_option maxRecDepth 100000 in
theorem opQ_of_trod {fuel : Nat} {cs : List Value} {x : DataW H × List MemPlace} (h : DataW.trod enc Try.prog w base spare held fuel 32 cs = some x) :
    ∃ q : OpQ, cs = opQ q ∧ NC w .u8 q.ao q.cap q.l ∧ ∀ m, (∀ y ∈ x.1.weights Try.prog 32, y ≤ m) → q.l.length ≤ m := by
  obtain ⟨xs, n, rfl, hx, hl, hxl, hf⟩ := DataW.trod_struct Try.underlying32 h
  have h0 := hf 0 _ rfl
  have h1 := hf 1 _ rfl
  have h2 := hf 2 _ rfl
  have hxl3 : xs.length = 3 := hxl
  rw [cells32] at hl
  match xs, hxl3, cs, hl with
  | [x0, x1, x2], _, [c0, c1, c2], _ =>
    obtain ⟨k0, e0, _, _⟩ := DataW.trod_int Try.underlying3 (show DataW.trod enc Try.prog w base spare held n 3 [c0] = some x0 from h0)
    obtain ⟨k1, e1, _, _⟩ := DataW.trod_int Try.underlying2 (show DataW.trod enc Try.prog w base spare held n 2 [c1] = some x1 from h1)
    obtain ⟨ao, cap, l, e2, nc, _, al⟩ := open_row bT cells5 rfl (show DataW.trod enc Try.prog w base spare held n 30 [c2] = some x2 from h2)
    cases e0
    cases e1
    cases e2
    refine ⟨⟨k0, k1, ao, cap, l⟩, rfl, nc, fun m hm => ?_⟩
    · show l.length ≤ m
      rcases al with ⟨_, rfl⟩ | ⟨el, sp, e3, e4⟩
      · simp
      · have hw := hm ((el.length + sp.length) * Try.prog.bytesOf 5) (by
          rw [hx]
          show _ ∈ DataW.weights Try.prog 32 (.agg [x0.1, x1.1, x2.1])
          rw [DataW.weights, Try.underlying32]
          refine DataW.weights_mem_each (j := 2) (t := 30) (d := x2.1) rfl rfl _ ?_
          rw [e3, DataW.weights, Try.underlying30]
          exact List.mem_cons_self)
        rw [bytes5] at hw
        omega
set_option maxRecDepth 100000 in
theorem open_opsQ {r : Reach} {b0 : Nat} {v : Value} {d : DataW H} {ps : List MemPlace} (hval : Value.okWide Try.prog w r b0 22 v) (hd : DataW.Trod enc Try.prog w base spare held 22 v d ps) :
    ∃ ao cap os, v = .slice ao (List.length os) cap ∧ OQ w ao cap os ∧ ∀ m, (∀ y ∈ d.weights Try.prog 22, y ≤ m) → os.length ≤ m ∧ ∀ o ∈ os, o.l.length ≤ m := by
  obtain ⟨a0, len0, cap0, rfl⟩ := okWide_slice Try.underlying22 hval
  obtain ⟨fuel, hf⟩ := hd
  rcases DataW.trod_slice Try.underlying22 hf with ⟨hcs, hx⟩ | ⟨a, len, cap, elems, rest, n, _, hcs, hx, _, hl, _, hel, hei, _, _⟩
  · exact ⟨none, 0, [], by simpa [Value.cells] using hcs, ⟨XC.nil _ _, fun o h => by (cases h)⟩, fun m _ => ⟨Nat.zero_le _, fun o h => by (cases h)⟩⟩
  · rw [cells32] at hei
    have each : ∀ i, ∃ q : OpQ, i < len → (∀ r, r < 3 → w.cell? (a.add (i * 3 + r)) = (opQ q)[r]?) ∧ NC w .u8 q.ao q.cap q.l ∧ ∃ y, y ∈ elems ∧ ∀ m, (∀ z ∈ y.1.weights Try.prog 32, z ≤ m) → q.l.length ≤ m := by
      intro i
      by_cases hi : i < len
      · have h1 := hei i hi
        rw [List.getElem?_eq_getElem (by omega)] at h1
        cases hc : w.cells? base (a.add (i * 3)) 3 with
        | none => rw [hc] at h1; cases h1
        | some cs =>
          rw [hc] at h1
          obtain ⟨q, h2, h3, h5⟩ := opQ_of_trod (show DataW.trod enc Try.prog w base spare held n 32 cs = some elems[i] from h1)
          refine ⟨q, fun _ => ⟨fun r hr => ?_, h3, elems[i], List.getElem_mem _, h5⟩⟩
          have := (World.cells?_some hc).2.2 r hr
          rw [add_add, h2] at this
          exact this
      · exact ⟨⟨0, 0, none, 0, []⟩, fun h => absurd h hi⟩
    obtain ⟨f, hf2⟩ := Classical.axiomOfChoice each
    have hmem : ∀ o ∈ (List.range len).map f, ∃ i, i < len ∧ f i = o := fun o ho => by
      obtain ⟨i, hi, rfl⟩ := List.mem_map.1 ho
      exact ⟨i, List.mem_range.1 hi, rfl⟩
    have hlen : ((List.range len).map f).length = len := by simp
    refine ⟨some a, cap, (List.range len).map f, ?_, ⟨⟨flatQ_len _, by rw [hlen]; exact hl, fun h => by (cases h), fun ad ha j v hv => ?_, fun v hv => ?_⟩, fun o ho => ?_⟩, fun m hm => ⟨?_, fun o ho => ?_⟩⟩
    · rw [hlen]
      simpa [Value.cells] using hcs
    · cases ha
      obtain ⟨o, h1, h2⟩ := flatQ_get _ _ _ hv
      rw [List.getElem?_map] at h1
      have hj : j / 3 < len := by
        cases hq : decide (j / 3 < len)
        · rw [List.getElem?_eq_none (by simp; have := of_decide_eq_false hq; omega)] at h1
          cases h1
        · exact of_decide_eq_true hq
      rw [List.getElem?_range hj] at h1
      simp only [Option.map_some, Option.some.injEq] at h1
      have h3 := (hf2 (j / 3) hj).1 (j % 3) (Nat.mod_lt _ (by decide))
      have h4 : j / 3 * 3 + j % 3 = j := by omega
      rw [h4, h1, h2] at h3
      exact h3
    · obtain ⟨o, _, ho⟩ := List.mem_flatMap.1 hv
      simp only [opQ, List.mem_cons, List.not_mem_nil, or_false] at ho
      rcases ho with rfl | rfl | rfl <;> rfl
    · obtain ⟨i, hi, rfl⟩ := hmem o ho
      exact (hf2 i hi).2.1
    · have hd2 : d = .slice (elems.map (·.1)) (rest.map (·.1)) := congrArg Prod.fst hx
      have := hm ((elems.length + rest.length) * Try.prog.bytesOf 32) (by
        rw [hd2, DataW.weights, Try.underlying22]
        simp)
      rw [bytes32] at this
      rw [hlen]
      omega
    · obtain ⟨i, hi, rfl⟩ := hmem o ho
      obtain ⟨y, hy, h5⟩ := (hf2 i hi).2.2
      refine h5 m fun z hz => hm z ?_
      have hd2 : d = .slice (elems.map (·.1)) (rest.map (·.1)) := congrArg Prod.fst hx
      rw [hd2, DataW.weights, Try.underlying22]
      refine List.mem_cons_of_mem _ (List.mem_append_left _ ?_)
      exact weights_all _ y.1 (List.mem_map.2 ⟨y, hy, rfl⟩) z hz
end
end Go.Proofs.Ythlfjbnfeclkmaa
