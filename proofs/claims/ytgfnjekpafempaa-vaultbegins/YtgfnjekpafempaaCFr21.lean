/- Items, versions, rows of items, of numbers and of rows of bytes, as arguments. -/
import Derived.Test.YtgfnjekpafempaaRows
import Derived.Test.YtgfnjekpafempaaCV1
import Derived.Test.YtgfnjekpafempaaCFr5
import Derived.ProofKit
namespace Go.Proofs.Ytgfnjekpafempaa
open Go.ChangeShapes Go.WideShapes Go.ChangeAt Go.RowKit
theorem I64.of {x : Int} (h : (Lit.int .i64 x).wf = true) : I64 x := by
  have e1 : IntKind.i64.min = -9223372036854775808 := rfl
  have e2 : IntKind.i64.max = 9223372036854775807 := rfl
  simp [Lit.wf, e1, e2] at h
  unfold I64
  omega
section
variable {H : Type} {enc : TypeId × Value → H} {w : World} {base : Nat} {spare : Nat → Bool} {held : Bool}
/-- A slice of whatever, opened. -/
theorem open_rowM {α : Type} (E : α → List Value) (ok : α → Prop) (z : α) (t e sz : Nat) (hsz : ∀ x, (E x).length = sz) (hone : ∀ x, ∀ v ∈ E x, v.oneCell' = true) (hpos : 0 < sz) (hu : Try.prog.underlying t = some (.slice e)) (hc : Try.prog.cellsOf e = sz)
    (hE : ∀ {fuel : Nat} {l : List Value} {x : DataW H × List MemPlace}, DataW.trod enc Try.prog w base spare held fuel e l = some x → ∃ p : α, ok p ∧ l = E p)
    {fuel : Nat} {cs : List Value} {x : DataW H × List MemPlace} (hf : DataW.trod enc Try.prog w base spare held fuel t cs = some x) :
    ∃ ao cap l, cs = [.slice ao (List.length l) cap] ∧ XC w sz ao cap l.length (l.flatMap E) ∧ (∀ x ∈ l, ok x) ∧ l.length ≤ maxLen ∧ ∀ m, (∀ y ∈ x.1.weights Try.prog t, y ≤ m) → l.length * Try.prog.bytesOf e ≤ m := by
  rcases DataW.trod_slice hu hf with ⟨h0, _⟩ | ⟨a, len, cap, elems, rest, n, _, h0, hx, hb, hl, hm, hlen, hel, _, _⟩
  · exact ⟨none, 0, [], h0, XC.nil w sz, fun _ h => (by cases h), Nat.zero_le _, fun m _ => by simp⟩
  · have key : ∀ i, ∃ x, i < len → (ok x ∧ w.cells? base (a.add (i * sz)) sz = some (E x)) := fun i => by
      by_cases hi : i < len
      · have h1 := hel i hi
        rw [List.getElem?_eq_getElem (by omega), hc] at h1
        cases hcc : w.cells? base (a.add (i * sz)) sz with
        | none => rw [hcc] at h1; cases h1
        | some lst =>
          rw [hcc] at h1
          obtain ⟨x, hx, hh⟩ := hE h1
          exact ⟨x, fun _ => ⟨hx, by rw [hh]⟩⟩
      · exact ⟨z, fun h => absurd h hi⟩
    obtain ⟨f, hfun⟩ := Classical.axiomOfChoice key
    have hlen' : ((List.range len).map f).length = len := by simp
    refine ⟨some a, cap, (List.range len).map f, by rw [hlen']; exact h0, ⟨flx_len hsz _, by rw [hlen']; exact hl, fun h => (by cases h), fun ad ha j u hu => ?_, fun u hu => ?_⟩, fun x hx => ?_, by rw [hlen']; omega, fun m hw => ?_⟩
    · cases ha
      have hj := (List.getElem?_eq_some_iff.1 hu).1
      rw [flx_len hsz, hlen'] at hj
      have hq : j / sz < len := Nat.div_lt_of_lt_mul (by rw [Nat.mul_comm]; exact hj)
      have hr : j % sz < sz := Nat.mod_lt _ hpos
      have ej : j / sz * sz + j % sz = j := by rw [Nat.mul_comm]; exact Nat.div_add_mod j sz
      have h2 := flx_cell hsz z ((List.range len).map f) (j / sz) (by rw [hlen']; exact hq) (j % sz) hr
      rw [ej, hu] at h2
      have hg : ((List.range len).map f).getD (j / sz) z = f (j / sz) := by
        rw [List.getD_eq_getElem?_getD, List.getElem?_map, List.getElem?_range hq]
        rfl
      rw [hg] at h2
      have hcc := (World.cells?_some (hfun (j / sz) hq).2).2.2 (j % sz) hr
      rw [add_add, ej] at hcc
      rw [hcc]
      exact h2.symm
    · obtain ⟨x, _, hx⟩ := List.mem_flatMap.1 hu
      exact hone x u hx
    · obtain ⟨i, hi, rfl⟩ := List.mem_map.1 hx
      exact (hfun i (List.mem_range.1 hi)).1
    · have hd2 : x.1 = .slice (elems.map (·.1)) (rest.map (·.1)) := congrArg Prod.fst hx
      have h3 := hw ((elems.length + rest.length) * Try.prog.bytesOf e) (by
        rw [hd2, DataW.weights, hu]
        simp)
      rw [hlen']
      exact Nat.le_trans (Nat.mul_le_mul_right _ (by omega)) h3
set_option maxRecDepth 100000 in
theorem open_nums {r : Reach} {b0 : Nat} {v : Value} {d : DataW H} {ps : List MemPlace} (hval : Value.okWide Try.prog w r b0 60 v) (hd : DataW.Trod enc Try.prog w base spare held 60 v d ps) : ∃ ao cap l, v = .slice ao (List.length l) cap ∧ RK kN w ao cap l := by
  obtain ⟨a0, len0, cap0, rfl⟩ := okWide_slice Try.underlying60 hval
  obtain ⟨fuel, hf⟩ := hd
  obtain ⟨ao, cap, l, h1, h2, h3, _, _⟩ := open_rowM kN.E (fun _ => True) 0 60 3 1 kN.len kN.one (by decide) Try.underlying60 cells3 (fun h => by obtain ⟨n, e, _⟩ := DataW.trod_int Try.underlying3 h; exact ⟨n, trivial, e⟩) hf
  exact ⟨ao, cap, l, by simpa [Value.cells] using h1, h2, h3⟩
end
end Go.Proofs.Ytgfnjekpafempaa
