/- Rows of identities, items, versions, pairs of numbers and a script's calls, as arguments. -/
import Derived.Test.YtjahegiopigblaaRows
import Derived.Test.YtjahegiopigblaaDC1
import Derived.Test.YtjahegiopigblaaDV1c
import Derived.Test.YtjahegiopigblaaDFr5
import Derived.ProofKit
namespace Go.Proofs.Ytjahegiopigblaa
open Go.ChangeShapes Go.WideShapes Go.ChangeAt Go.RowKit
theorem cells3o : Try.prog.cellsOf 3 = 1 := by kernel_rfl
theorem I64.of {x : Int} (h : (Lit.int .i64 x).wf = true) : I64 x := by
  unfold I64
  simp [Lit.wf, IntKind.min, IntKind.max, IntKind.signed, IntKind.bits] at h
  omega
section
variable {H : Type} {enc : TypeId × Value → H} {w : World} {base : Nat} {spare : Nat → Bool} {held : Bool}
theorem open_rowW {α : Type} (E : α → List Value) (ok : α → Prop) (bd : α → Nat → Prop) (z : α) (t e sz : Nat) (hsz : ∀ x, (E x).length = sz) (hone : ∀ x, ∀ v ∈ E x, v.oneCell' = true) (hpos : 0 < sz) (hu : Try.prog.underlying t = some (.slice e)) (hc : Try.prog.cellsOf e = sz)
    (hE : ∀ {fuel : Nat} {l : List Value} {x : DataW H × List MemPlace}, DataW.trod enc Try.prog w base spare held fuel e l = some x → ∃ p : α, ok p ∧ l = E p ∧ ∀ m, (∀ y ∈ x.1.weights Try.prog e, y ≤ m) → bd p m)
    {fuel : Nat} {cs : List Value} {x : DataW H × List MemPlace} (hf : DataW.trod enc Try.prog w base spare held fuel t cs = some x) :
    ∃ ao cap l, cs = [.slice ao (List.length l) cap] ∧ XC w sz ao cap l.length (l.flatMap E) ∧ (∀ x ∈ l, ok x) ∧ ∀ m, (∀ y ∈ x.1.weights Try.prog t, y ≤ m) → ∀ p ∈ l, bd p m := by
  rcases DataW.trod_slice hu hf with ⟨h0, _⟩ | ⟨a, len, cap, elems, rest, n, _, h0, hx, hb, hl, hm, hlen, hel, _, _⟩
  · exact ⟨none, 0, [], h0, XC.nil w sz, fun _ h => (by cases h), fun _ _ _ h => (by cases h)⟩
  · rw [hc] at hel
    have key : ∀ i, ∃ q : α, i < len → ok q ∧ w.cells? base (a.add (i * sz)) sz = some (E q) ∧ ∃ y, y ∈ elems ∧ ∀ m, (∀ z ∈ y.1.weights Try.prog e, z ≤ m) → bd q m := fun i => by
      by_cases hi : i < len
      · have h1 := hel i hi
        rw [List.getElem?_eq_getElem (by omega)] at h1
        cases hcc : w.cells? base (a.add (i * sz)) sz with
        | none => rw [hcc] at h1; cases h1
        | some lst =>
          rw [hcc] at h1
          obtain ⟨q, hq, hh, hw⟩ := hE (show _ = some elems[i] from h1)
          exact ⟨q, fun _ => ⟨hq, by rw [hh], elems[i], List.getElem_mem _, hw⟩⟩
      · exact ⟨z, fun h => absurd h hi⟩
    obtain ⟨f, hfun⟩ := Classical.axiomOfChoice key
    have hlen' : ((List.range len).map f).length = len := by simp
    have hmem : ∀ o ∈ (List.range len).map f, ∃ i, i < len ∧ f i = o := fun o ho => by
      obtain ⟨i, hi, rfl⟩ := List.mem_map.1 ho
      exact ⟨i, List.mem_range.1 hi, rfl⟩
    refine ⟨some a, cap, (List.range len).map f, by rw [hlen']; exact h0, ⟨flx_len hsz _, by rw [hlen']; exact hl, fun h => (by cases h), fun ad ha j u hu => ?_, fun u hu => ?_⟩, fun o ho => ?_, fun m hw o ho => ?_⟩
    · cases ha
      have hj := (List.getElem?_eq_some_iff.1 hu).1
      rw [flx_len hsz, hlen'] at hj
      have hq : j / sz < len := Nat.div_lt_of_lt_mul (by rw [Nat.mul_comm]; exact hj)
      have hr : j % sz < sz := Nat.mod_lt _ hpos
      have ej : j / sz * sz + j % sz = j := by rw [Nat.mul_comm]; exact Nat.div_add_mod j sz
      have h2 := flx_cell hsz z ((List.range len).map f) (j / sz) (by rw [hlen']; exact hq) (j % sz) hr
      rw [ej, hu] at h2
      have hg : ((List.range len).map f).getD (j / sz) z = f (j / sz) := by
        rw [List.getD_eq_getElem?_getD, List.getElem?_map, List.getElem?_range hq]
        rfl
      rw [hg] at h2
      have hcc := (World.cells?_some (hfun (j / sz) hq).2.1).2.2 (j % sz) hr
      rw [add_add, ej] at hcc
      rw [hcc]
      exact h2.symm
    · obtain ⟨o, _, ho⟩ := List.mem_flatMap.1 hu
      exact hone o u ho
    · obtain ⟨i, hi, rfl⟩ := hmem o ho
      exact (hfun i hi).1
    · obtain ⟨i, hi, rfl⟩ := hmem o ho
      obtain ⟨y, hy, h5⟩ := (hfun i hi).2.2
      refine h5 m fun z hz => hw z ?_
      have hd2 : x.1 = .slice (elems.map (·.1)) (rest.map (·.1)) := congrArg Prod.fst hx
      rw [hd2, DataW.weights, hu]
      refine List.mem_cons_of_mem _ (List.mem_append_left _ ?_)
      exact weights_all _ y.1 (List.mem_map.2 ⟨y, hy, rfl⟩) z hz
theorem ids_of_trod {fuel : Nat} {l : List Value} {x : DataW H × List MemPlace} (h : DataW.trod enc Try.prog w base spare held fuel 24 l = some x) : ∃ ao cap L, l = [.slice ao (List.length L) cap] ∧ RK kI w ao cap L := by
  obtain ⟨ao, cap, L, h1, h2, h3, _⟩ := open_rowW kI.E kI.ok (fun _ _ => True) 0 24 23 16 kI.len kI.one (by decide) Try.underlying24 cells23 (fun h => by obtain ⟨n, hn, e⟩ := id_of_trod h; exact ⟨n, hn, e, fun _ _ => trivial⟩) h
  exact ⟨ao, cap, L, h1, ⟨h2, h3⟩⟩
set_option maxRecDepth 100000 in
theorem open_ids {r : Reach} {b0 : Nat} {v : Value} {d : DataW H} {ps : List MemPlace} (hval : Value.okWide Try.prog w r b0 24 v) (hd : DataW.Trod enc Try.prog w base spare held 24 v d ps) : ∃ ao cap l, v = .slice ao (List.length l) cap ∧ RK kI w ao cap l := by
  obtain ⟨a0, len0, cap0, rfl⟩ := okWide_slice Try.underlying24 hval
  obtain ⟨fuel, hf⟩ := hd
  obtain ⟨ao, cap, l, h1, h2⟩ := ids_of_trod hf
  exact ⟨ao, cap, l, by simpa [Value.cells] using h1, h2⟩
def twV (p : Int × Int) : Value := .agg #[.int .i64 p.1, .int .i64 p.2]
set_option maxRecDepth 100000 in
theorem open_tw {r : Reach} {b0 : Nat} {v : Value} {d : DataW H} {ps : List MemPlace} (hval : Value.okWide Try.prog w r b0 63 v) (hd : DataW.Trod enc Try.prog w base spare held 63 v d ps) : ∃ p : Int × Int, v = twV p := by
  have hu := Try.underlying63
  simp only [Value.okWide, hu] at hval
  obtain ⟨cs, rfl, _, _⟩ := hval
  obtain ⟨fuel, hf⟩ := hd
  obtain ⟨xs, n, rfl, hx, hl, hxl, hel⟩ := DataW.trod_array Try.underlying63 hf
  rw [cells3o] at hel
  have hl2 : cs.toList.length = 2 := by
    have := hl
    rw [show Try.prog.cellsOf 63 = 2 by kernel_rfl] at this
    exact this
  have h0 := hel 0 (by decide)
  have h1 := hel 1 (by decide)
  rw [List.getElem?_eq_getElem (by omega)] at h0 h1
  obtain ⟨a, e0, _, _⟩ := DataW.trod_int Try.underlying3 h0
  obtain ⟨b, e1, _, _⟩ := DataW.trod_int Try.underlying3 h1
  refine ⟨(a, b), ?_⟩
  have e : cs.toList = [.int .i64 a, .int .i64 b] := by
    have e3 : cs.toList = (cs.toList.drop (0 * 1)).take 1 ++ (cs.toList.drop (1 * 1)).take 1 := by
      have e4 : (cs.toList.drop (1 * 1)).take 1 = cs.toList.drop 1 := List.take_of_length_le (by rw [List.length_drop]; omega)
      rw [e4]
      show _ = cs.toList.take 1 ++ cs.toList.drop 1
      rw [List.take_append_drop]
    have f0 : (cs.toList.drop (0 * 1)).take 1 = [.int .i64 a] := e0
    have f1 : (cs.toList.drop (1 * 1)).take 1 = [.int .i64 b] := e1
    rw [e3, f0, f1]
    rfl
  exact congrArg Value.agg (Array.toList_inj.1 e)
end
end Go.Proofs.Ytjahegiopigblaa
