/- Items, versions, rows of items, of numbers and of rows of bytes, as arguments. -/
import Derived.Test.YtgfnjekpafempabRows
import Derived.Test.YtgfnjekpafempabBV1
import Derived.Test.YtgfnjekpafempabBFr5
import Derived.ProofKit
namespace Go.Proofs.Ytgfnjekpafempab
open Go.ChangeShapes Go.WideShapes Go.ChangeAt Go.RowKit
theorem cellsIt : Try.prog.cellsOf 28 = 34 := by kernel_rfl
theorem cellsVe : Try.prog.cellsOf 25 = 17 := by kernel_rfl
theorem cellBy : Try.prog.cellsOf 26 = 1 := by kernel_rfl
theorem cells2 : Try.prog.cellsOf 2 = 1 := by kernel_rfl
theorem I64.of {x : Int} (h : (Lit.int .i64 x).wf = true) : I64 x := by
  have e1 : IntKind.i64.min = -9223372036854775808 := rfl
  have e2 : IntKind.i64.max = 9223372036854775807 := rfl
  simp [Lit.wf, e1, e2] at h
  unfold I64
  omega
theorem cutVe (l : List Value) (h : l.length = 17) : l = (l.drop 0).take 1 ++ (l.drop 1).take 16 := by
  rw [List.drop_zero]
  have e1 : (l.drop 1).take 16 = l.drop 1 := List.take_of_length_le (by rw [List.length_drop]; omega)
  rw [e1, List.take_append_drop]
theorem cutIt (l : List Value) (h : l.length = 34) : l = (l.drop 0).take 16 ++ ((l.drop 16).take 17 ++ (l.drop 33).take 1) := by
  rw [List.drop_zero]
  have e1 : (l.drop 33).take 1 = l.drop 33 := List.take_of_length_le (by rw [List.length_drop]; omega)
  have e2 : (l.drop 16).take 17 ++ l.drop 33 = l.drop 16 := by rw [show 33 = 16 + 17 from rfl, ← List.drop_drop, List.take_append_drop]
  rw [e1, e2, List.take_append_drop]
section
variable {H : Type} {enc : TypeId × Value → H} {w : World} {base : Nat} {spare : Nat → Bool} {held : Bool}
theorem ve_of_trod {fuel : Nat} {l : List Value} {x : DataW H × List MemPlace} (h : DataW.trod enc Try.prog w base spare held fuel 25 l = some x) : ∃ p : VM, p.ok ∧ l = veL p := by
  obtain ⟨xs, n, rfl, hx, hl, hxl, hf⟩ := DataW.trod_struct Try.underlying25 h
  have hxl2 : xs.length = 2 := hxl
  have h0 : DataW.trod enc Try.prog w base spare held n 2 ((l.drop 0).take (Try.prog.cellsOf 2)) = xs[0]? := hf 0 _ rfl
  rw [cells2, List.getElem?_eq_getElem (by omega)] at h0
  have h1 : DataW.trod enc Try.prog w base spare held n 23 ((l.drop 1).take (Try.prog.cellsOf 23)) = xs[1]? := hf 1 _ rfl
  rw [cells23, List.getElem?_eq_getElem (by omega)] at h1
  rw [cellsVe] at hl
  obtain ⟨k, e0, _, wf0⟩ := DataW.trod_int Try.underlying2 h0
  obtain ⟨u, hu, e1⟩ := id_of_trod h1
  refine ⟨⟨k, u⟩, ⟨I64.of wf0, hu⟩, ?_⟩
  rw [cutVe l hl, e0, e1]
  rfl
theorem bytes_le {x : DataW H × List MemPlace} {l : List Nat} (h : asLong x.1 l) : ∀ m, (∀ y ∈ x.1.weights Try.prog 26, y ≤ m) → l.length ≤ m := fun m hm => by
  rcases h with ⟨_, rfl⟩ | ⟨el, sp, h1, h2⟩
  · exact Nat.zero_le _
  · have := hm ((el.length + sp.length) * Try.prog.bytesOf 5) (by
      rw [h1, DataW.weights, Try.underlying26]
      simp)
    rw [bytes5] at this
    omega
theorem it_of_trod {fuel : Nat} {l : List Value} {x : DataW H × List MemPlace} (h : DataW.trod enc Try.prog w base spare held fuel 28 l = some x) : ∃ p : IM, (p.ok ∧ NC w .u8 p.ao p.cap p.val) ∧ l = itL p ∧ ∀ m, (∀ y ∈ x.1.weights Try.prog 28, y ≤ m) → p.val.length ≤ m := by
  obtain ⟨xs, n, rfl, hx, hl, hxl, hf⟩ := DataW.trod_struct Try.underlying28 h
  have hxl2 : xs.length = 3 := hxl
  have h0 : DataW.trod enc Try.prog w base spare held n 23 ((l.drop 0).take (Try.prog.cellsOf 23)) = xs[0]? := hf 0 _ rfl
  have h1 : DataW.trod enc Try.prog w base spare held n 25 ((l.drop 16).take (Try.prog.cellsOf 25)) = xs[1]? := hf 1 _ rfl
  have h2 : DataW.trod enc Try.prog w base spare held n 26 ((l.drop 33).take (Try.prog.cellsOf 26)) = xs[2]? := hf 2 _ rfl
  obtain ⟨y0, y1, y2, rfl⟩ : ∃ a b c, xs = [a, b, c] := by
    match xs, hxl2 with
    | [a, b, c], _ => exact ⟨a, b, c, rfl⟩
  rw [cells23] at h0
  rw [cellsVe] at h1
  rw [cellBy] at h2
  rw [cellsIt] at hl
  obtain ⟨u, hu, e0⟩ := id_of_trod (show _ = some y0 from h0)
  obtain ⟨v, hv, e1⟩ := ve_of_trod (show _ = some y1 from h1)
  obtain ⟨ao, cap, b, e2, nb, _, al⟩ := open_row bT cells5 rfl (show _ = some y2 from h2)
  refine ⟨⟨u, v.n, v.who, ao, cap, b⟩, ⟨⟨hu, hv.n, hv.who⟩, nb⟩, ?_, fun m hm => bytes_le al m fun y hy => hm y ?_⟩
  · rw [cutIt l hl, e0, e1, e2]
    rfl
  · have hd2 : x.1 = .agg [y0.1, y1.1, y2.1] := congrArg Prod.fst hx
    rw [hd2, DataW.weights, Try.underlying28]
    exact DataW.weights_mem_each (j := 2) (t := 26) (d := y2.1) rfl rfl _ hy
set_option maxRecDepth 100000 in
theorem open_item {r : Reach} {b0 : Nat} {v : Value} {d : DataW H} {ps : List MemPlace} (hval : Value.okWide Try.prog w r b0 28 v) (hd : DataW.Trod enc Try.prog w base spare held 28 v d ps) : ∃ p : IM, p.ok ∧ v = .agg (itA p) ∧ NC w .u8 p.ao p.cap p.val ∧ ∀ m, (∀ y ∈ d.weights Try.prog 28, y ≤ m) → p.val.length ≤ m := by
  have hu := Try.underlying28
  simp only [Value.okWide, hu] at hval
  obtain ⟨cs, rfl, _, _⟩ := hval
  obtain ⟨fuel, hf⟩ := hd
  obtain ⟨p, hp, hh, hm⟩ := it_of_trod hf
  have : cs.toList = itL p := hh
  exact ⟨p, hp.1, by rw [itA, ← this], hp.2, hm⟩
end
end Go.Proofs.Ytgfnjekpafempab
