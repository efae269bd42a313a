/- Rows of identities, items, versions, pairs of numbers and a script's calls, as arguments. -/
import Derived.Test.YtjahegiopigblaaRows
import Derived.Test.YtjahegiopigblaaHC1
import Derived.Test.YtjahegiopigblaaHV1c
import Derived.Test.YtjahegiopigblaaHFr5
import Derived.ProofKit
namespace Go.Proofs.Ytjahegiopigblaa
open Go.ChangeShapes Go.WideShapes Go.ChangeAt Go.RowKit
theorem cellsIt : Try.prog.cellsOf 46 = 34 := by kernel_rfl
theorem cellsVe : Try.prog.cellsOf 39 = 17 := by kernel_rfl
theorem cellBy : Try.prog.cellsOf 44 = 1 := by kernel_rfl
theorem cells2 : Try.prog.cellsOf 2 = 1 := by kernel_rfl
theorem cells3o : Try.prog.cellsOf 3 = 1 := by kernel_rfl
theorem cellsOq : Try.prog.cellsOf 42 = 52 := by kernel_rfl
theorem cellsIs : Try.prog.cellsOf 24 = 1 := by kernel_rfl
theorem cellsMs : Try.prog.cellsOf 40 = 1 := by kernel_rfl
theorem I64.of {x : Int} (h : (Lit.int .i64 x).wf = true) : I64 x := by
  unfold I64
  simp [Lit.wf, IntKind.min, IntKind.max, IntKind.signed, IntKind.bits] at h
  omega
theorem cutVe (l : List Value) (h : l.length = 17) : l = (l.drop 0).take 1 ++ (l.drop 1).take 16 := by
  rw [List.drop_zero]
  have e1 : (l.drop 1).take 16 = l.drop 1 := List.take_of_length_le (by rw [List.length_drop]; omega)
  rw [e1, List.take_append_drop]
theorem cutIt (l : List Value) (h : l.length = 34) : l = (l.drop 0).take 16 ++ ((l.drop 16).take 17 ++ (l.drop 33).take 1) := by
  rw [List.drop_zero]
  have e1 : (l.drop 33).take 1 = l.drop 33 := List.take_of_length_le (by rw [List.length_drop]; omega)
  have e2 : (l.drop 16).take 17 ++ l.drop 33 = l.drop 16 := by rw [show 33 = 16 + 17 from rfl, ← List.drop_drop, List.take_append_drop]
  rw [e1, e2, List.take_append_drop]
theorem cutOq (l : List Value) (h : l.length = 52) : l = (l.drop 0).take 1 ++ ((l.drop 1).take 16 ++ ((l.drop 17).take 16 ++ ((l.drop 33).take 17 ++ ((l.drop 50).take 1 ++ (l.drop 51).take 1)))) := by
  rw [List.drop_zero]
  have e1 : (l.drop 51).take 1 = l.drop 51 := List.take_of_length_le (by rw [List.length_drop]; omega)
  have e2 : (l.drop 50).take 1 ++ l.drop 51 = l.drop 50 := by rw [show 51 = 50 + 1 from rfl, ← List.drop_drop, List.take_append_drop]
  have e3 : (l.drop 33).take 17 ++ l.drop 50 = l.drop 33 := by rw [show 50 = 33 + 17 from rfl, ← List.drop_drop, List.take_append_drop]
  have e4 : (l.drop 17).take 16 ++ l.drop 33 = l.drop 17 := by rw [show 33 = 17 + 16 from rfl, ← List.drop_drop, List.take_append_drop]
  have e5 : (l.drop 1).take 16 ++ l.drop 17 = l.drop 1 := by rw [show 17 = 1 + 16 from rfl, ← List.drop_drop, List.take_append_drop]
  rw [e1, e2, e3, e4, e5, List.take_append_drop]
section
variable {H : Type} {enc : TypeId × Value → H} {w : World} {base : Nat} {spare : Nat → Bool} {held : Bool}
theorem ve_of_trod {fuel : Nat} {l : List Value} {x : DataW H × List MemPlace} (h : DataW.trod enc Try.prog w base spare held fuel 39 l = some x) : ∃ p : VM, p.ok ∧ l = veL p := by
  obtain ⟨xs, n, rfl, hx, hl, hxl, hf⟩ := DataW.trod_struct Try.underlying39 h
  have hxl2 : xs.length = 2 := hxl
  have h0 : DataW.trod enc Try.prog w base spare held n 2 ((l.drop 0).take (Try.prog.cellsOf 2)) = xs[0]? := hf 0 _ rfl
  rw [cells2, List.getElem?_eq_getElem (by omega)] at h0
  have h1 : DataW.trod enc Try.prog w base spare held n 23 ((l.drop 1).take (Try.prog.cellsOf 23)) = xs[1]? := hf 1 _ rfl
  rw [cells23, List.getElem?_eq_getElem (by omega)] at h1
  rw [cellsVe] at hl
  obtain ⟨k, e0, _, wf0⟩ := DataW.trod_int Try.underlying2 h0
  obtain ⟨u, hu, e1⟩ := id_of_trod h1
  refine ⟨⟨k, u⟩, ⟨I64.of wf0, hu⟩, ?_⟩
  rw [cutVe l hl, e0, e1]
  rfl
theorem bytes_le {x : DataW H × List MemPlace} {l : List Nat} (h : asLong x.1 l) : ∀ m, (∀ y ∈ x.1.weights Try.prog 44, y ≤ m) → l.length ≤ m := fun m hm => by
  rcases h with ⟨_, rfl⟩ | ⟨el, sp, h1, h2⟩
  · exact Nat.zero_le _
  · have := hm ((el.length + sp.length) * Try.prog.bytesOf 5) (by
      rw [h1, DataW.weights, Try.underlying44]
      simp)
    rw [bytes5] at this
    omega
theorem it_of_trod {fuel : Nat} {l : List Value} {x : DataW H × List MemPlace} (h : DataW.trod enc Try.prog w base spare held fuel 46 l = some x) : ∃ p : IM, (p.ok ∧ NC w .u8 p.ao p.cap p.val) ∧ l = itL p ∧ ∀ m, (∀ y ∈ x.1.weights Try.prog 46, y ≤ m) → p.val.length ≤ m := by
  obtain ⟨xs, n, rfl, hx, hl, hxl, hf⟩ := DataW.trod_struct Try.underlying46 h
  have hxl2 : xs.length = 3 := hxl
  have h0 : DataW.trod enc Try.prog w base spare held n 23 ((l.drop 0).take (Try.prog.cellsOf 23)) = xs[0]? := hf 0 _ rfl
  have h1 : DataW.trod enc Try.prog w base spare held n 39 ((l.drop 16).take (Try.prog.cellsOf 39)) = xs[1]? := hf 1 _ rfl
  have h2 : DataW.trod enc Try.prog w base spare held n 44 ((l.drop 33).take (Try.prog.cellsOf 44)) = xs[2]? := hf 2 _ rfl
  obtain ⟨y0, y1, y2, rfl⟩ : ∃ a b c, xs = [a, b, c] := by
    match xs, hxl2 with
    | [a, b, c], _ => exact ⟨a, b, c, rfl⟩
  rw [cells23] at h0
  rw [cellsVe] at h1
  rw [cellBy] at h2
  rw [cellsIt] at hl
  obtain ⟨u, hu, e0⟩ := id_of_trod (show _ = some y0 from h0)
  obtain ⟨v, hv, e1⟩ := ve_of_trod (show _ = some y1 from h1)
  obtain ⟨ao, cap, b, e2, nb, _, al⟩ := open_row bT cells5 rfl (show _ = some y2 from h2)
  refine ⟨⟨u, v.n, v.who, ao, cap, b⟩, ⟨⟨hu, hv.n, hv.who⟩, nb⟩, ?_, fun m hm => bytes_le al m fun y hy => hm y ?_⟩
  · rw [cutIt l hl, e0, e1, e2]
    rfl
  · have hd2 : x.1 = .agg [y0.1, y1.1, y2.1] := congrArg Prod.fst hx
    rw [hd2, DataW.weights, Try.underlying46]
    exact DataW.weights_mem_each (j := 2) (t := 44) (d := y2.1) rfl rfl _ hy
theorem open_rowW {α : Type} (E : α → List Value) (ok : α → Prop) (bd : α → Nat → Prop) (z : α) (t e sz : Nat) (hsz : ∀ x, (E x).length = sz) (hone : ∀ x, ∀ v ∈ E x, v.oneCell' = true) (hpos : 0 < sz) (hu : Try.prog.underlying t = some (.slice e)) (hc : Try.prog.cellsOf e = sz)
    (hE : ∀ {fuel : Nat} {l : List Value} {x : DataW H × List MemPlace}, DataW.trod enc Try.prog w base spare held fuel e l = some x → ∃ p : α, ok p ∧ l = E p ∧ ∀ m, (∀ y ∈ x.1.weights Try.prog e, y ≤ m) → bd p m)
    {fuel : Nat} {cs : List Value} {x : DataW H × List MemPlace} (hf : DataW.trod enc Try.prog w base spare held fuel t cs = some x) :
    ∃ ao cap l, cs = [.slice ao (List.length l) cap] ∧ XC w sz ao cap l.length (l.flatMap E) ∧ (∀ x ∈ l, ok x) ∧ ∀ m, (∀ y ∈ x.1.weights Try.prog t, y ≤ m) → ∀ p ∈ l, bd p m := by
  rcases DataW.trod_slice hu hf with ⟨h0, _⟩ | ⟨a, len, cap, elems, rest, n, _, h0, hx, hb, hl, hm, hlen, hel, _, _⟩
  · exact ⟨none, 0, [], h0, XC.nil w sz, fun _ h => (by cases h), fun _ _ _ h => (by cases h)⟩
  · rw [hc] at hel
    have key : ∀ i, ∃ q : α, i < len → ok q ∧ w.cells? base (a.add (i * sz)) sz = some (E q) ∧ ∃ y, y ∈ elems ∧ ∀ m, (∀ z ∈ y.1.weights Try.prog e, z ≤ m) → bd q m := fun i => by
      by_cases hi : i < len
      · have h1 := hel i hi
        rw [List.getElem?_eq_getElem (by omega)] at h1
        cases hcc : w.cells? base (a.add (i * sz)) sz with
        | none => rw [hcc] at h1; cases h1
        | some lst =>
          rw [hcc] at h1
          obtain ⟨q, hq, hh, hw⟩ := hE (show _ = some elems[i] from h1)
          exact ⟨q, fun _ => ⟨hq, by rw [hh], elems[i], List.getElem_mem _, hw⟩⟩
      · exact ⟨z, fun h => absurd h hi⟩
    obtain ⟨f, hfun⟩ := Classical.axiomOfChoice key
    have hlen' : ((List.range len).map f).length = len := by simp
    have hmem : ∀ o ∈ (List.range len).map f, ∃ i, i < len ∧ f i = o := fun o ho => by
      obtain ⟨i, hi, rfl⟩ := List.mem_map.1 ho
      exact ⟨i, List.mem_range.1 hi, rfl⟩
    refine ⟨some a, cap, (List.range len).map f, by rw [hlen']; exact h0, ⟨flx_len hsz _, by rw [hlen']; exact hl, fun h => (by cases h), fun ad ha j u hu => ?_, fun u hu => ?_⟩, fun o ho => ?_, fun m hw o ho => ?_⟩
    · cases ha
      have hj := (List.getElem?_eq_some_iff.1 hu).1
      rw [flx_len hsz, hlen'] at hj
      have hq : j / sz < len := Nat.div_lt_of_lt_mul (by rw [Nat.mul_comm]; exact hj)
      have hr : j % sz < sz := Nat.mod_lt _ hpos
      have ej : j / sz * sz + j % sz = j := by rw [Nat.mul_comm]; exact Nat.div_add_mod j sz
      have h2 := flx_cell hsz z ((List.range len).map f) (j / sz) (by rw [hlen']; exact hq) (j % sz) hr
      rw [ej, hu] at h2
      have hg : ((List.range len).map f).getD (j / sz) z = f (j / sz) := by
        rw [List.getD_eq_getElem?_getD, List.getElem?_map, List.getElem?_range hq]
        rfl
      rw [hg] at h2
      have hcc := (World.cells?_some (hfun (j / sz) hq).2.1).2.2 (j % sz) hr
      rw [add_add, ej] at hcc
      rw [hcc]
      exact h2.symm
    · obtain ⟨o, _, ho⟩ := List.mem_flatMap.1 hu
      exact hone o u ho
    · obtain ⟨i, hi, rfl⟩ := hmem o ho
      exact (hfun i hi).1
    · obtain ⟨i, hi, rfl⟩ := hmem o ho
      obtain ⟨y, hy, h5⟩ := (hfun i hi).2.2
      refine h5 m fun z hz => hw z ?_
      have hd2 : x.1 = .slice (elems.map (·.1)) (rest.map (·.1)) := congrArg Prod.fst hx
      rw [hd2, DataW.weights, hu]
      refine List.mem_cons_of_mem _ (List.mem_append_left _ ?_)
      exact weights_all _ y.1 (List.mem_map.2 ⟨y, hy, rfl⟩) z hz
theorem ids_of_trod {fuel : Nat} {l : List Value} {x : DataW H × List MemPlace} (h : DataW.trod enc Try.prog w base spare held fuel 24 l = some x) : ∃ ao cap L, l = [.slice ao (List.length L) cap] ∧ RK kI w ao cap L := by
  obtain ⟨ao, cap, L, h1, h2, h3, _⟩ := open_rowW kI.E kI.ok (fun _ _ => True) 0 24 23 16 kI.len kI.one (by decide) Try.underlying24 cells23 (fun h => by obtain ⟨n, hn, e⟩ := id_of_trod h; exact ⟨n, hn, e, fun _ _ => trivial⟩) h
  exact ⟨ao, cap, L, h1, ⟨h2, h3⟩⟩
theorem its_of_trod {fuel : Nat} {l : List Value} {x : DataW H × List MemPlace} (h : DataW.trod enc Try.prog w base spare held fuel 40 l = some x) : ∃ ao cap L, l = [.slice ao (List.length L) cap] ∧ RK kM w ao cap L ∧ (∀ x ∈ L, NC w .u8 x.ao x.cap x.val) ∧ ∀ m, (∀ y ∈ x.1.weights Try.prog 40, y ≤ m) → ∀ p ∈ L, p.val.length ≤ m := by
  obtain ⟨ao, cap, L, h1, h2, h3, h4⟩ := open_rowW itL (fun p : IM => p.ok ∧ NC w .u8 p.ao p.cap p.val) (fun p m => p.val.length ≤ m) zM 40 46 34 itL_len itL_one (by decide) Try.underlying40 cellsIt it_of_trod h
  exact ⟨ao, cap, L, h1, ⟨h2, fun x hx => (h3 x hx).1⟩, fun x hx => (h3 x hx).2, h4⟩
def OQ.good (w : World) (o : OQ) : Prop := o.ok ∧ RK kI w o.io o.ic o.ids ∧ RK kM w o.mo o.mc o.its ∧ ∀ x ∈ o.its, NC w .u8 x.ao x.cap x.val
theorem oq_of_trod {fuel : Nat} {l : List Value} {x : DataW H × List MemPlace} (h : DataW.trod enc Try.prog w base spare held fuel 42 l = some x) : ∃ p : OQ, p.good w ∧ l = oqL p ∧ ∀ m, (∀ y ∈ x.1.weights Try.prog 42, y ≤ m) → ∀ z ∈ p.its, z.val.length ≤ m := by
  obtain ⟨xs, n, rfl, hx, hl, hxl, hf⟩ := DataW.trod_struct Try.underlying42 h
  have hxl2 : xs.length = 6 := hxl
  have h0 : DataW.trod enc Try.prog w base spare held n 3 ((l.drop 0).take (Try.prog.cellsOf 3)) = xs[0]? := hf 0 _ rfl
  have h1 : DataW.trod enc Try.prog w base spare held n 23 ((l.drop 1).take (Try.prog.cellsOf 23)) = xs[1]? := hf 1 _ rfl
  have h2 : DataW.trod enc Try.prog w base spare held n 23 ((l.drop 17).take (Try.prog.cellsOf 23)) = xs[2]? := hf 2 _ rfl
  have h3 : DataW.trod enc Try.prog w base spare held n 39 ((l.drop 33).take (Try.prog.cellsOf 39)) = xs[3]? := hf 3 _ rfl
  have h4 : DataW.trod enc Try.prog w base spare held n 24 ((l.drop 50).take (Try.prog.cellsOf 24)) = xs[4]? := hf 4 _ rfl
  have h5 : DataW.trod enc Try.prog w base spare held n 40 ((l.drop 51).take (Try.prog.cellsOf 40)) = xs[5]? := hf 5 _ rfl
  obtain ⟨y0, y1, y2, y3, y4, y5, rfl⟩ : ∃ a b c d e f, xs = [a, b, c, d, e, f] := by
    match xs, hxl2 with
    | [a, b, c, d, e, f], _ => exact ⟨a, b, c, d, e, f, rfl⟩
  rw [cells3o] at h0
  rw [cells23] at h1 h2
  rw [cellsVe] at h3
  rw [cellsIs] at h4
  rw [cellsMs] at h5
  rw [cellsOq] at hl
  obtain ⟨k0, e0, _, wf0⟩ := DataW.trod_int Try.underlying3 (show _ = some y0 from h0)
  obtain ⟨a, ha, e1⟩ := id_of_trod (show _ = some y1 from h1)
  obtain ⟨b, hb, e2⟩ := id_of_trod (show _ = some y2 from h2)
  obtain ⟨v, hv, e3⟩ := ve_of_trod (show _ = some y3 from h3)
  obtain ⟨io, ic, ids, e4, HI⟩ := ids_of_trod (show _ = some y4 from h4)
  obtain ⟨mo, mc, its, e5, HM, HN, hm5⟩ := its_of_trod (show _ = some y5 from h5)
  refine ⟨⟨k0, a, b, v, io, ic, ids, mo, mc, its⟩, ⟨⟨I64.of wf0, ha, hb, hv⟩, HI, HM, HN⟩, ?_, fun m hm => hm5 m fun y hy => hm y ?_⟩
  · rw [cutOq l hl, e0, e1, e2, e3, e4, e5]
    rfl
  · have hd2 : x.1 = .agg [y0.1, y1.1, y2.1, y3.1, y4.1, y5.1] := congrArg Prod.fst hx
    rw [hd2, DataW.weights, Try.underlying42]
    exact DataW.weights_mem_each (j := 5) (t := 40) (d := y5.1) rfl rfl _ hy
set_option maxRecDepth 100000 in
theorem open_oqs {r : Reach} {b0 : Nat} {v : Value} {d : DataW H} {ps : List MemPlace} (hval : Value.okWide Try.prog w r b0 31 v) (hd : DataW.Trod enc Try.prog w base spare held 31 v d ps) : ∃ ao cap l, v = .slice ao (List.length l) cap ∧ RK koq w ao cap l ∧ (∀ o ∈ l, OQ.good w o) ∧ ∀ m, (∀ y ∈ d.weights Try.prog 31, y ≤ m) → ∀ o ∈ l, ∀ z ∈ o.its, z.val.length ≤ m := by
  obtain ⟨a0, len0, cap0, rfl⟩ := okWide_slice Try.underlying31 hval
  obtain ⟨fuel, hf⟩ := hd
  obtain ⟨ao, cap, l, h1, h2, h3, h4⟩ := open_rowW oqL (OQ.good w) (fun p m => ∀ z ∈ p.its, z.val.length ≤ m) zO 31 42 52 oqL_len oqL_one (by decide) Try.underlying31 cellsOq oq_of_trod hf
  exact ⟨ao, cap, l, by simpa [Value.cells] using h1, ⟨h2, fun x hx => (h3 x hx).1⟩, h3, h4⟩
end
end Go.Proofs.Ytjahegiopigblaa
