/- Items, versions, rows of items, of numbers and of rows of bytes, as arguments. -/
import Derived.Test.YtgfnjekpafempaaRows
import Derived.Test.YtgfnjekpafempaaEV1
import Derived.Test.YtgfnjekpafempaaEFr5
import Derived.ProofKit
namespace Go.Proofs.Ytgfnjekpafempaa
open Go.ChangeShapes Go.WideShapes Go.ChangeAt Go.RowKit
theorem cellsIt : Try.prog.cellsOf 56 = 34 := by kernel_rfl
theorem cellsVe : Try.prog.cellsOf 54 = 17 := by kernel_rfl
theorem cellBy : Try.prog.cellsOf 30 = 1 := by kernel_rfl
theorem cells2 : Try.prog.cellsOf 2 = 1 := by kernel_rfl
theorem I64.of {x : Int} (h : (Lit.int .i64 x).wf = true) : I64 x := by
  have e1 : IntKind.i64.min = -9223372036854775808 := rfl
  have e2 : IntKind.i64.max = 9223372036854775807 := rfl
  simp [Lit.wf, e1, e2] at h
  unfold I64
  omega
theorem cutVe (l : List Value) (h : l.length = 17) : l = (l.drop 0).take 1 ++ (l.drop 1).take 16 := by
  rw [List.drop_zero]
  have e1 : (l.drop 1).take 16 = l.drop 1 := List.take_of_length_le (by rw [List.length_drop]; omega)
  rw [e1, List.take_append_drop]
theorem cutIt (l : List Value) (h : l.length = 34) : l = (l.drop 0).take 16 ++ ((l.drop 16).take 17 ++ (l.drop 33).take 1) := by
  rw [List.drop_zero]
  have e1 : (l.drop 33).take 1 = l.drop 33 := List.take_of_length_le (by rw [List.length_drop]; omega)
  have e2 : (l.drop 16).take 17 ++ l.drop 33 = l.drop 16 := by rw [show 33 = 16 + 17 from rfl, ← List.drop_drop, List.take_append_drop]
  rw [e1, e2, List.take_append_drop]
section
variable {H : Type} {enc : TypeId × Value → H} {w : World} {base : Nat} {spare : Nat → Bool} {held : Bool}
theorem ve_of_trod {fuel : Nat} {l : List Value} {x : DataW H × List MemPlace} (h : DataW.trod enc Try.prog w base spare held fuel 54 l = some x) : ∃ p : VM, p.ok ∧ l = veL p := by
  obtain ⟨xs, n, rfl, hx, hl, hxl, hf⟩ := DataW.trod_struct Try.underlying54 h
  have hxl2 : xs.length = 2 := hxl
  have h0 : DataW.trod enc Try.prog w base spare held n 2 ((l.drop 0).take (Try.prog.cellsOf 2)) = xs[0]? := hf 0 _ rfl
  rw [cells2, List.getElem?_eq_getElem (by omega)] at h0
  have h1 : DataW.trod enc Try.prog w base spare held n 52 ((l.drop 1).take (Try.prog.cellsOf 52)) = xs[1]? := hf 1 _ rfl
  rw [cells52, List.getElem?_eq_getElem (by omega)] at h1
  rw [cellsVe] at hl
  obtain ⟨k, e0, _, wf0⟩ := DataW.trod_int Try.underlying2 h0
  obtain ⟨u, hu, e1⟩ := id_of_trod h1
  refine ⟨⟨k, u⟩, ⟨I64.of wf0, hu⟩, ?_⟩
  rw [cutVe l hl, e0, e1]
  rfl
theorem bytes_le {x : DataW H × List MemPlace} {l : List Nat} (h : asLong x.1 l) : ∀ m, (∀ y ∈ x.1.weights Try.prog 30, y ≤ m) → l.length ≤ m := fun m hm => by
  rcases h with ⟨_, rfl⟩ | ⟨el, sp, h1, h2⟩
  · exact Nat.zero_le _
  · have := hm ((el.length + sp.length) * Try.prog.bytesOf 5) (by
      rw [h1, DataW.weights, Try.underlying30]
      simp)
    rw [bytes5] at this
    omega
theorem it_of_trod {fuel : Nat} {l : List Value} {x : DataW H × List MemPlace} (h : DataW.trod enc Try.prog w base spare held fuel 56 l = some x) : ∃ p : IM, (p.ok ∧ NC w .u8 p.ao p.cap p.val) ∧ l = itL p ∧ ∀ m, (∀ y ∈ x.1.weights Try.prog 56, y ≤ m) → p.val.length ≤ m := by
  obtain ⟨xs, n, rfl, hx, hl, hxl, hf⟩ := DataW.trod_struct Try.underlying56 h
  have hxl2 : xs.length = 3 := hxl
  have h0 : DataW.trod enc Try.prog w base spare held n 52 ((l.drop 0).take (Try.prog.cellsOf 52)) = xs[0]? := hf 0 _ rfl
  have h1 : DataW.trod enc Try.prog w base spare held n 54 ((l.drop 16).take (Try.prog.cellsOf 54)) = xs[1]? := hf 1 _ rfl
  have h2 : DataW.trod enc Try.prog w base spare held n 30 ((l.drop 33).take (Try.prog.cellsOf 30)) = xs[2]? := hf 2 _ rfl
  obtain ⟨y0, y1, y2, rfl⟩ : ∃ a b c, xs = [a, b, c] := by
    match xs, hxl2 with
    | [a, b, c], _ => exact ⟨a, b, c, rfl⟩
  rw [cells52] at h0
  rw [cellsVe] at h1
  rw [cellBy] at h2
  rw [cellsIt] at hl
  obtain ⟨u, hu, e0⟩ := id_of_trod (show _ = some y0 from h0)
  obtain ⟨v, hv, e1⟩ := ve_of_trod (show _ = some y1 from h1)
  obtain ⟨ao, cap, b, e2, nb, _, al⟩ := open_row bT cells5 rfl (show _ = some y2 from h2)
  refine ⟨⟨u, v.n, v.who, ao, cap, b⟩, ⟨⟨hu, hv.n, hv.who⟩, nb⟩, ?_, fun m hm => bytes_le al m fun y hy => hm y ?_⟩
  · rw [cutIt l hl, e0, e1, e2]
    rfl
  · have hd2 : x.1 = .agg [y0.1, y1.1, y2.1] := congrArg Prod.fst hx
    rw [hd2, DataW.weights, Try.underlying56]
    exact DataW.weights_mem_each (j := 2) (t := 30) (d := y2.1) rfl rfl _ hy
/-- A slice of whatever, opened. -/
theorem open_rowM {α : Type} (E : α → List Value) (ok : α → Prop) (z : α) (t e sz : Nat) (hsz : ∀ x, (E x).length = sz) (hone : ∀ x, ∀ v ∈ E x, v.oneCell' = true) (hpos : 0 < sz) (hu : Try.prog.underlying t = some (.slice e)) (hc : Try.prog.cellsOf e = sz)
    (hE : ∀ {fuel : Nat} {l : List Value} {x : DataW H × List MemPlace}, DataW.trod enc Try.prog w base spare held fuel e l = some x → ∃ p : α, ok p ∧ l = E p)
    {fuel : Nat} {cs : List Value} {x : DataW H × List MemPlace} (hf : DataW.trod enc Try.prog w base spare held fuel t cs = some x) :
    ∃ ao cap l, cs = [.slice ao (List.length l) cap] ∧ XC w sz ao cap l.length (l.flatMap E) ∧ (∀ x ∈ l, ok x) ∧ l.length ≤ maxLen ∧ ∀ m, (∀ y ∈ x.1.weights Try.prog t, y ≤ m) → l.length * Try.prog.bytesOf e ≤ m := by
  rcases DataW.trod_slice hu hf with ⟨h0, _⟩ | ⟨a, len, cap, elems, rest, n, _, h0, hx, hb, hl, hm, hlen, hel, _, _⟩
  · exact ⟨none, 0, [], h0, XC.nil w sz, fun _ h => (by cases h), Nat.zero_le _, fun m _ => by simp⟩
  · have key : ∀ i, ∃ x, i < len → (ok x ∧ w.cells? base (a.add (i * sz)) sz = some (E x)) := fun i => by
      by_cases hi : i < len
      · have h1 := hel i hi
        rw [List.getElem?_eq_getElem (by omega), hc] at h1
        cases hcc : w.cells? base (a.add (i * sz)) sz with
        | none => rw [hcc] at h1; cases h1
        | some lst =>
          rw [hcc] at h1
          obtain ⟨x, hx, hh⟩ := hE h1
          exact ⟨x, fun _ => ⟨hx, by rw [hh]⟩⟩
      · exact ⟨z, fun h => absurd h hi⟩
    obtain ⟨f, hfun⟩ := Classical.axiomOfChoice key
    have hlen' : ((List.range len).map f).length = len := by simp
    refine ⟨some a, cap, (List.range len).map f, by rw [hlen']; exact h0, ⟨flx_len hsz _, by rw [hlen']; exact hl, fun h => (by cases h), fun ad ha j u hu => ?_, fun u hu => ?_⟩, fun x hx => ?_, by rw [hlen']; omega, fun m hw => ?_⟩
    · cases ha
      have hj := (List.getElem?_eq_some_iff.1 hu).1
      rw [flx_len hsz, hlen'] at hj
      have hq : j / sz < len := Nat.div_lt_of_lt_mul (by rw [Nat.mul_comm]; exact hj)
      have hr : j % sz < sz := Nat.mod_lt _ hpos
      have ej : j / sz * sz + j % sz = j := by rw [Nat.mul_comm]; exact Nat.div_add_mod j sz
      have h2 := flx_cell hsz z ((List.range len).map f) (j / sz) (by rw [hlen']; exact hq) (j % sz) hr
      rw [ej, hu] at h2
      have hg : ((List.range len).map f).getD (j / sz) z = f (j / sz) := by
        rw [List.getD_eq_getElem?_getD, List.getElem?_map, List.getElem?_range hq]
        rfl
      rw [hg] at h2
      have hcc := (World.cells?_some (hfun (j / sz) hq).2).2.2 (j % sz) hr
      rw [add_add, ej] at hcc
      rw [hcc]
      exact h2.symm
    · obtain ⟨x, _, hx⟩ := List.mem_flatMap.1 hu
      exact hone x u hx
    · obtain ⟨i, hi, rfl⟩ := List.mem_map.1 hx
      exact (hfun i (List.mem_range.1 hi)).1
    · have hd2 : x.1 = .slice (elems.map (·.1)) (rest.map (·.1)) := congrArg Prod.fst hx
      have h3 := hw ((elems.length + rest.length) * Try.prog.bytesOf e) (by
        rw [hd2, DataW.weights, hu]
        simp)
      rw [hlen']
      exact Nat.le_trans (Nat.mul_le_mul_right _ (by omega)) h3
set_option maxRecDepth 100000 in
theorem open_items {r : Reach} {b0 : Nat} {v : Value} {d : DataW H} {ps : List MemPlace} (hval : Value.okWide Try.prog w r b0 45 v) (hd : DataW.Trod enc Try.prog w base spare held 45 v d ps) : ∃ ao cap l, v = .slice ao (List.length l) cap ∧ RK kM w ao cap l ∧ (∀ x ∈ l, NC w .u8 x.ao x.cap x.val) ∧ l.length ≤ maxLen := by
  obtain ⟨a0, len0, cap0, rfl⟩ := okWide_slice Try.underlying45 hval
  obtain ⟨fuel, hf⟩ := hd
  obtain ⟨ao, cap, l, h1, h2, h3, h4, _⟩ := open_rowM itL (fun p : IM => p.ok ∧ NC w .u8 p.ao p.cap p.val) zM 45 56 34 itL_len itL_one (by decide) Try.underlying45 cellsIt (fun h => by obtain ⟨p, hp, hh, _⟩ := it_of_trod h; exact ⟨p, hp, hh⟩) hf
  exact ⟨ao, cap, l, by simpa [Value.cells] using h1, ⟨h2, fun x hx => (h3 x hx).1⟩, fun x hx => (h3 x hx).2, h4⟩
set_option maxRecDepth 100000 in
theorem open_nums {r : Reach} {b0 : Nat} {v : Value} {d : DataW H} {ps : List MemPlace} (hval : Value.okWide Try.prog w r b0 60 v) (hd : DataW.Trod enc Try.prog w base spare held 60 v d ps) : ∃ ao cap l, v = .slice ao (List.length l) cap ∧ RK kN w ao cap l := by
  obtain ⟨a0, len0, cap0, rfl⟩ := okWide_slice Try.underlying60 hval
  obtain ⟨fuel, hf⟩ := hd
  obtain ⟨ao, cap, l, h1, h2, h3, _, _⟩ := open_rowM kN.E (fun _ => True) 0 60 3 1 kN.len kN.one (by decide) Try.underlying60 cells3 (fun h => by obtain ⟨n, e, _⟩ := DataW.trod_int Try.underlying3 h; exact ⟨n, trivial, e⟩) hf
  exact ⟨ao, cap, l, by simpa [Value.cells] using h1, h2, h3⟩
end
end Go.Proofs.Ytgfnjekpafempaa
