/- What is heard, and rows of it, as arguments. -/
import Derived.Test.YtljihaihhnamfaaRows
import Derived.Test.YtljihaihhnamfaaA1
import Derived.Test.YtljihaihhnamfaaFr
import Derived.ProofKit
namespace Go.Proofs.Ytljihaihhnamfaa
open Go.ChangeShapes Go.WideShapes Go.ChangeAt Go.RowKit

theorem cellsH : Try.prog.cellsOf 26 = 18 := by kernel_rfl
theorem cells3 : Try.prog.cellsOf 3 = 1 := by kernel_rfl
theorem cells2 : Try.prog.cellsOf 2 = 1 := by kernel_rfl
theorem bytesH : Try.prog.bytesOf 26 = 32 := by kernel_rfl
theorem I64.of {x : Int} (h : (Lit.int .i64 x).wf = true) : I64 x := by
  have e1 : IntKind.i64.min = -9223372036854775808 := rfl
  have e2 : IntKind.i64.max = 9223372036854775807 := rfl
  simp [Lit.wf, e1, e2] at h
  unfold I64
  omega
theorem cutH (l : List Value) (h : l.length = 18) : l = (l.drop 0).take 1 ++ ((l.drop 1).take 16 ++ (l.drop 17).take 1) := by
  rw [List.drop_zero]
  have e1 : (l.drop 17).take 1 = l.drop 17 := List.take_of_length_le (by rw [List.length_drop]; omega)
  have e2 : (l.drop 1).take 16 ++ l.drop 17 = l.drop 1 := by rw [show 17 = 1 + 16 from rfl, ← List.drop_drop, List.take_append_drop]
  rw [e1, e2, List.take_append_drop]
section
variable {H : Type} {enc : TypeId × Value → H} {w : World} {base : Nat} {spare : Nat → Bool} {held : Bool}
theorem hd_of_trod {fuel : Nat} {l : List Value} {x : DataW H × List MemPlace} (h : DataW.trod enc Try.prog w base spare held fuel 26 l = some x) : ∃ p : Hd, p.ok ∧ l = hdL p := by
  obtain ⟨xs, n, rfl, hx, hl, hxl, hf⟩ := DataW.trod_struct Try.underlying26 h
  have hxl2 : xs.length = 3 := hxl
  have h0 : DataW.trod enc Try.prog w base spare held n 3 ((l.drop 0).take (Try.prog.cellsOf 3)) = xs[0]? := hf 0 _ rfl
  rw [cells3, List.getElem?_eq_getElem (by omega)] at h0
  have h1 : DataW.trod enc Try.prog w base spare held n 23 ((l.drop 1).take (Try.prog.cellsOf 23)) = xs[1]? := hf 1 _ rfl
  rw [cells23, List.getElem?_eq_getElem (by omega)] at h1
  have h2 : DataW.trod enc Try.prog w base spare held n 2 ((l.drop 17).take (Try.prog.cellsOf 2)) = xs[2]? := hf 2 _ rfl
  rw [cells2, List.getElem?_eq_getElem (by omega)] at h2
  rw [cellsH] at hl
  obtain ⟨m, e0, _, wf0⟩ := DataW.trod_int Try.underlying3 h0
  obtain ⟨u, hu, e1⟩ := id_of_trod h1
  obtain ⟨k, e2, _, wf2⟩ := DataW.trod_int Try.underlying2 h2
  refine ⟨⟨m, u, k⟩, ⟨I64.of wf0, hu, I64.of wf2⟩, ?_⟩
  rw [cutH l hl, e0, e1, e2]
  rfl
/-- A slice of whatever, opened. -/
theorem open_rowM {α : Type} (E : α → List Value) (ok : α → Prop) (z : α) (t e sz : Nat) (hsz : ∀ x, (E x).length = sz) (hone : ∀ x, ∀ v ∈ E x, v.oneCell' = true) (hpos : 0 < sz) (hu : Try.prog.underlying t = some (.slice e)) (hc : Try.prog.cellsOf e = sz)
    (hE : ∀ {fuel : Nat} {l : List Value} {x : DataW H × List MemPlace}, DataW.trod enc Try.prog w base spare held fuel e l = some x → ∃ p : α, ok p ∧ l = E p)
    {fuel : Nat} {cs : List Value} {x : DataW H × List MemPlace} (hf : DataW.trod enc Try.prog w base spare held fuel t cs = some x) :
    ∃ ao cap l, cs = [.slice ao (List.length l) cap] ∧ XC w sz ao cap l.length (l.flatMap E) ∧ (∀ x ∈ l, ok x) ∧ l.length ≤ maxLen ∧ ∀ m, (∀ y ∈ x.1.weights Try.prog t, y ≤ m) → l.length * Try.prog.bytesOf e ≤ m := by
  rcases DataW.trod_slice hu hf with ⟨h0, _⟩ | ⟨a, len, cap, elems, rest, n, _, h0, hx, hb, hl, hm, hlen, hel, _, _⟩
  · exact ⟨none, 0, [], h0, XC.nil w sz, fun _ h => (by cases h), Nat.zero_le _, fun m _ => by simp⟩
  · have key : ∀ i, ∃ x, i < len → (ok x ∧ w.cells? base (a.add (i * sz)) sz = some (E x)) := fun i => by
      by_cases hi : i < len
      · have h1 := hel i hi
        rw [List.getElem?_eq_getElem (by omega), hc] at h1
        cases hcc : w.cells? base (a.add (i * sz)) sz with
        | none => rw [hcc] at h1; cases h1
        | some lst =>
          rw [hcc] at h1
          obtain ⟨x, hx, hh⟩ := hE h1
          exact ⟨x, fun _ => ⟨hx, by rw [hh]⟩⟩
      · exact ⟨z, fun h => absurd h hi⟩
    obtain ⟨f, hfun⟩ := Classical.axiomOfChoice key
    have hlen' : ((List.range len).map f).length = len := by simp
    refine ⟨some a, cap, (List.range len).map f, by rw [hlen']; exact h0, ⟨flx_len hsz _, by rw [hlen']; exact hl, fun h => (by cases h), fun ad ha j u hu => ?_, fun u hu => ?_⟩, fun x hx => ?_, by rw [hlen']; omega, fun m hw => ?_⟩
    · cases ha
      have hj := (List.getElem?_eq_some_iff.1 hu).1
      rw [flx_len hsz, hlen'] at hj
      have hq : j / sz < len := Nat.div_lt_of_lt_mul (by rw [Nat.mul_comm]; exact hj)
      have hr : j % sz < sz := Nat.mod_lt _ hpos
      have ej : j / sz * sz + j % sz = j := by rw [Nat.mul_comm]; exact Nat.div_add_mod j sz
      have h2 := flx_cell hsz z ((List.range len).map f) (j / sz) (by rw [hlen']; exact hq) (j % sz) hr
      rw [ej, hu] at h2
      have hg : ((List.range len).map f).getD (j / sz) z = f (j / sz) := by
        rw [List.getD_eq_getElem?_getD, List.getElem?_map, List.getElem?_range hq]
        rfl
      rw [hg] at h2
      have hcc := (World.cells?_some (hfun (j / sz) hq).2).2.2 (j % sz) hr
      rw [add_add, ej] at hcc
      rw [hcc]
      exact h2.symm
    · obtain ⟨x, _, hx⟩ := List.mem_flatMap.1 hu
      exact hone x u hx
    · obtain ⟨i, hi, rfl⟩ := List.mem_map.1 hx
      exact (hfun i (List.mem_range.1 hi)).1
    · have hd2 : x.1 = .slice (elems.map (·.1)) (rest.map (·.1)) := congrArg Prod.fst hx
      have h3 := hw ((elems.length + rest.length) * Try.prog.bytesOf e) (by
        rw [hd2, DataW.weights, hu]
        simp)
      rw [hlen']
      exact Nat.le_trans (Nat.mul_le_mul_right _ (by omega)) h3
theorem rowH_seg {fuel : Nat} {cs : List Value} {x : DataW H × List MemPlace} (h : DataW.trod enc Try.prog w base spare held fuel 24 cs = some x) :
    ∃ ao cap l, cs = [.slice ao (List.length l) cap] ∧ RK kH w ao cap l ∧ l.length ≤ maxLen ∧ ∀ m, (∀ y ∈ x.1.weights Try.prog 24, y ≤ m) → l.length * 32 ≤ m := by
  obtain ⟨ao, cap, l, h1, h2, h3, h4, h5⟩ := open_rowM hdL Hd.ok zH 24 26 18 hdL_len hdL_one (by decide) Try.underlying24 cellsH hd_of_trod h
  rw [bytesH] at h5
  exact ⟨ao, cap, l, h1, ⟨h2, h3⟩, h4, h5⟩
set_option maxRecDepth 100000 in
theorem open_hd {r : Reach} {b0 : Nat} {v : Value} {d : DataW H} {ps : List MemPlace} (hval : Value.okWide Try.prog w r b0 26 v) (hd : DataW.Trod enc Try.prog w base spare held 26 v d ps) : ∃ p : Hd, p.ok ∧ v = .agg (hdA p) := by
  have hu := Try.underlying26
  simp only [Value.okWide, hu] at hval
  obtain ⟨cs, rfl, _, _⟩ := hval
  obtain ⟨fuel, hf⟩ := hd
  obtain ⟨p, hp, hh⟩ := hd_of_trod hf
  have : cs.toList = hdL p := hh
  exact ⟨p, hp, by rw [hdA, ← this]⟩
set_option maxRecDepth 100000 in
theorem open_rowH {r : Reach} {b0 : Nat} {v : Value} {d : DataW H} {ps : List MemPlace} (hval : Value.okWide Try.prog w r b0 24 v) (hd : DataW.Trod enc Try.prog w base spare held 24 v d ps) : ∃ ao cap l, v = .slice ao (List.length l) cap ∧ RK kH w ao cap l ∧ ∀ m, (∀ y ∈ d.weights Try.prog 24, y ≤ m) → l.length * 32 ≤ m := by
  obtain ⟨a0, len0, cap0, rfl⟩ := okWide_slice Try.underlying24 hval
  obtain ⟨fuel, hf⟩ := hd
  obtain ⟨ao, cap, l, h1, h2, _, h3⟩ := rowH_seg hf
  exact ⟨ao, cap, l, by simpa [Value.cells] using h1, h2, h3⟩
end
end Go.Proofs.Ytljihaihhnamfaa
