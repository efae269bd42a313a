/- Nodes' cases, ways, frames, keys and rows as arguments. -/
import Derived.Test.YtkjnefgenffhcaaRows
import Derived.Test.YtkjnefgenffhcaaEZ1
import Derived.Test.YtkjnefgenffhcaaEFr
import Derived.ProofKit
namespace Go.Proofs.Ytkjnefgenffhcaa
open Go.ChangeShapes Go.WideShapes Go.ChangeAt Go.RowKit
theorem cells4 : Try.prog.cellsOf 4 = 1 := by kernel_rfl
theorem cellsE : Try.prog.cellsOf 73 = 51 := by kernel_rfl
theorem cells22 : Try.prog.cellsOf 22 = 1 := by kernel_rfl
theorem cells27 : Try.prog.cellsOf 27 = 1 := by kernel_rfl
theorem cells32 : Try.prog.cellsOf 32 = 1 := by kernel_rfl
theorem cells26 : Try.prog.cellsOf 26 = 17 := by kernel_rfl
theorem cells29 : Try.prog.cellsOf 29 = 20 := by kernel_rfl
theorem bytes3 : Try.prog.bytesOf 3 = 8 := by kernel_rfl
theorem I64.of {x : Int} (h : (Lit.int .i64 x).wf = true) : I64 x := by
  have e1 : IntKind.i64.min = -9223372036854775808 := rfl
  have e2 : IntKind.i64.max = 9223372036854775807 := rfl
  simp [Lit.wf, e1, e2] at h
  unfold I64
  omega
theorem cut2 (l : List Value) (a b : Nat) (h : l.length = a + b) : l = (l.drop 0).take a ++ (l.drop a).take b := by
  rw [List.drop_zero]
  have e1 : (l.drop a).take b = l.drop a := List.take_of_length_le (by rw [List.length_drop]; omega)
  rw [e1, List.take_append_drop]
theorem cut5 (l : List Value) (h : l.length = 51) : l = (l.drop 0).take 17 ++ ((l.drop 17).take 16 ++ ((l.drop 33).take 16 ++ ((l.drop 49).take 1 ++ (l.drop 50).take 1))) := by
  rw [List.drop_zero]
  have e1 : (l.drop 50).take 1 = l.drop 50 := List.take_of_length_le (by rw [List.length_drop]; omega)
  have e2 : (l.drop 49).take 1 ++ l.drop 50 = l.drop 49 := by rw [show 50 = 49 + 1 from rfl, ← List.drop_drop, List.take_append_drop]
  have e3 : (l.drop 33).take 16 ++ l.drop 49 = l.drop 33 := by rw [show 49 = 33 + 16 from rfl, ← List.drop_drop, List.take_append_drop]
  have e4 : (l.drop 17).take 16 ++ l.drop 33 = l.drop 17 := by rw [show 33 = 17 + 16 from rfl, ← List.drop_drop, List.take_append_drop]
  rw [e1, e2, e3, e4, List.take_append_drop]
theorem cutC (l : List Value) (h : l.length = 20) : l = (l.drop 0).take 1 ++ ((l.drop 1).take 1 ++ ((l.drop 2).take 17 ++ (l.drop 19).take 1)) := by
  rw [List.drop_zero]
  have e1 : (l.drop 19).take 1 = l.drop 19 := List.take_of_length_le (by rw [List.length_drop]; omega)
  have e2 : (l.drop 2).take 17 ++ l.drop 19 = l.drop 2 := by rw [show 19 = 2 + 17 from rfl, ← List.drop_drop, List.take_append_drop]
  have e3 : (l.drop 1).take 1 ++ l.drop 2 = l.drop 1 := by rw [show 2 = 1 + 1 from rfl, ← List.drop_drop, List.take_append_drop]
  rw [e1, e2, e3, List.take_append_drop]
section
variable {H : Type} {enc : TypeId × Value → H} {w : World} {base : Nat} {spare : Nat → Bool} {held : Bool}
theorem pa_of_trod {fuel : Nat} {l : List Value} {x : DataW H × List MemPlace} (h : DataW.trod enc Try.prog w base spare held fuel 31 l = some x) : ∃ p : Pa, p.ok ∧ l = paL p := by
  obtain ⟨xs, n, rfl, hx, hl, hxl, hf⟩ := DataW.trod_struct Try.underlying31 h
  have hxl2 : xs.length = 2 := hxl
  have h0 : DataW.trod enc Try.prog w base spare held n 24 ((l.drop 0).take (Try.prog.cellsOf 24)) = xs[0]? := hf 0 _ rfl
  rw [cells29', List.getElem?_eq_getElem (by omega)] at h0
  have h1 : DataW.trod enc Try.prog w base spare held n 2 ((l.drop 16).take (Try.prog.cellsOf 2)) = xs[1]? := hf 1 _ rfl
  rw [cells2', List.getElem?_eq_getElem (by omega)] at h1
  rw [cells31] at hl
  obtain ⟨u, hu, e0⟩ := id_of_trod h0
  obtain ⟨m, e1, _, wf1⟩ := DataW.trod_int Try.underlying2 h1
  refine ⟨⟨u, m⟩, ⟨hu, I64.of wf1⟩, ?_⟩
  rw [cut2 l 16 1 hl, e0, e1]
  rfl
theorem en_of_trod {fuel : Nat} {l : List Value} {x : DataW H × List MemPlace} (h : DataW.trod enc Try.prog w base spare held fuel 73 l = some x) : ∃ p : En, p.ok ∧ l = enL p := by
  obtain ⟨xs, n, rfl, hx, hl, hxl, hf⟩ := DataW.trod_struct Try.underlying73 h
  have hxl2 : xs.length = 5 := hxl
  have h0 : DataW.trod enc Try.prog w base spare held n 31 ((l.drop 0).take (Try.prog.cellsOf 31)) = xs[0]? := hf 0 _ rfl
  rw [cells31, List.getElem?_eq_getElem (by omega)] at h0
  have h1 : DataW.trod enc Try.prog w base spare held n 24 ((l.drop 17).take (Try.prog.cellsOf 24)) = xs[1]? := hf 1 _ rfl
  rw [cells29', List.getElem?_eq_getElem (by omega)] at h1
  have h2 : DataW.trod enc Try.prog w base spare held n 24 ((l.drop 33).take (Try.prog.cellsOf 24)) = xs[2]? := hf 2 _ rfl
  rw [cells29', List.getElem?_eq_getElem (by omega)] at h2
  have h3 : DataW.trod enc Try.prog w base spare held n 3 ((l.drop 49).take (Try.prog.cellsOf 3)) = xs[3]? := hf 3 _ rfl
  rw [cells3, List.getElem?_eq_getElem (by omega)] at h3
  have h4 : DataW.trod enc Try.prog w base spare held n 3 ((l.drop 50).take (Try.prog.cellsOf 3)) = xs[4]? := hf 4 _ rfl
  rw [cells3, List.getElem?_eq_getElem (by omega)] at h4
  rw [cellsE] at hl
  obtain ⟨p, hp, e0⟩ := pa_of_trod h0
  obtain ⟨a, ha, e1⟩ := id_of_trod h1
  obtain ⟨b, hb, e2⟩ := id_of_trod h2
  obtain ⟨m, e3, _, wf3⟩ := DataW.trod_int Try.underlying3 h3
  obtain ⟨k, e4, _, wf4⟩ := DataW.trod_int Try.underlying3 h4
  refine ⟨⟨p, a, b, m, k⟩, ⟨hp, ha, hb, I64.of wf3, I64.of wf4⟩, ?_⟩
  rw [cut5 l hl, e0, e1, e2, e3, e4]
  rfl
/-- A slice of whatever, opened. -/
theorem open_rowM {α : Type} (E : α → List Value) (ok : α → Prop) (z : α) (t e sz : Nat) (hsz : ∀ x, (E x).length = sz) (hone : ∀ x, ∀ v ∈ E x, v.oneCell' = true) (hpos : 0 < sz) (hu : Try.prog.underlying t = some (.slice e)) (hc : Try.prog.cellsOf e = sz)
    (hE : ∀ {fuel : Nat} {l : List Value} {x : DataW H × List MemPlace}, DataW.trod enc Try.prog w base spare held fuel e l = some x → ∃ p : α, ok p ∧ l = E p)
    {fuel : Nat} {cs : List Value} {x : DataW H × List MemPlace} (hf : DataW.trod enc Try.prog w base spare held fuel t cs = some x) :
    ∃ ao cap l, cs = [.slice ao (List.length l) cap] ∧ XC w sz ao cap l.length (l.flatMap E) ∧ (∀ x ∈ l, ok x) ∧ l.length ≤ maxLen ∧ ∀ m, (∀ y ∈ x.1.weights Try.prog t, y ≤ m) → l.length * Try.prog.bytesOf e ≤ m := by
  rcases DataW.trod_slice hu hf with ⟨h0, _⟩ | ⟨a, len, cap, elems, rest, n, _, h0, hx, hb, hl, hm, hlen, hel, _, _⟩
  · exact ⟨none, 0, [], h0, XC.nil w sz, fun _ h => (by cases h), Nat.zero_le _, fun m _ => by simp⟩
  · have key : ∀ i, ∃ x, i < len → (ok x ∧ w.cells? base (a.add (i * sz)) sz = some (E x)) := fun i => by
      by_cases hi : i < len
      · have h1 := hel i hi
        rw [List.getElem?_eq_getElem (by omega), hc] at h1
        cases hcc : w.cells? base (a.add (i * sz)) sz with
        | none => rw [hcc] at h1; cases h1
        | some lst =>
          rw [hcc] at h1
          obtain ⟨x, hx, hh⟩ := hE h1
          exact ⟨x, fun _ => ⟨hx, by rw [hh]⟩⟩
      · exact ⟨z, fun h => absurd h hi⟩
    obtain ⟨f, hfun⟩ := Classical.axiomOfChoice key
    have hlen' : ((List.range len).map f).length = len := by simp
    refine ⟨some a, cap, (List.range len).map f, by rw [hlen']; exact h0, ⟨flx_len hsz _, by rw [hlen']; exact hl, fun h => (by cases h), fun ad ha j u hu => ?_, fun u hu => ?_⟩, fun x hx => ?_, by rw [hlen']; omega, fun m hw => ?_⟩
    · cases ha
      have hj := (List.getElem?_eq_some_iff.1 hu).1
      rw [flx_len hsz, hlen'] at hj
      have hq : j / sz < len := Nat.div_lt_of_lt_mul (by rw [Nat.mul_comm]; exact hj)
      have hr : j % sz < sz := Nat.mod_lt _ hpos
      have ej : j / sz * sz + j % sz = j := by rw [Nat.mul_comm]; exact Nat.div_add_mod j sz
      have h2 := flx_cell hsz z ((List.range len).map f) (j / sz) (by rw [hlen']; exact hq) (j % sz) hr
      rw [ej, hu] at h2
      have hg : ((List.range len).map f).getD (j / sz) z = f (j / sz) := by
        rw [List.getD_eq_getElem?_getD, List.getElem?_map, List.getElem?_range hq]
        rfl
      rw [hg] at h2
      have hcc := (World.cells?_some (hfun (j / sz) hq).2).2.2 (j % sz) hr
      rw [add_add, ej] at hcc
      rw [hcc]
      exact h2.symm
    · obtain ⟨x, _, hx⟩ := List.mem_flatMap.1 hu
      exact hone x u hx
    · obtain ⟨i, hi, rfl⟩ := List.mem_map.1 hx
      exact (hfun i (List.mem_range.1 hi)).1
    · have hd2 : x.1 = .slice (elems.map (·.1)) (rest.map (·.1)) := congrArg Prod.fst hx
      have h3 := hw ((elems.length + rest.length) * Try.prog.bytesOf e) (by
        rw [hd2, DataW.weights, hu]
        simp)
      rw [hlen']
      exact Nat.le_trans (Nat.mul_le_mul_right _ (by omega)) h3
theorem intI_seg {fuel : Nat} {l : List Value} {x : DataW H × List MemPlace} (h : DataW.trod enc Try.prog w base spare held fuel 3 l = some x) : ∃ p : Int, I64t p ∧ l = [.int .i64 p] := by
  obtain ⟨m, e, _, wf⟩ := DataW.trod_int Try.underlying3 h
  exact ⟨m, I64t.of wf, e⟩
theorem bool_seg {fuel : Nat} {l : List Value} {x : DataW H × List MemPlace} (h : DataW.trod enc Try.prog w base spare held fuel 4 l = some x) : ∃ p : Bool, True ∧ l = kB.E p := by
  obtain ⟨b, e, _⟩ := DataW.trod_bool Try.underlying4 h
  exact ⟨b, trivial, e⟩
theorem ci_flat (l : List Int) : (l.flatMap fun x => [Value.int .i64 x]) = ci l := by
  induction l with
  | nil => rfl
  | cons a l ih => rw [List.flatMap_cons, ih]; rfl
theorem rowI_seg {fuel : Nat} {cs : List Value} {x : DataW H × List MemPlace} (h : DataW.trod enc Try.prog w base spare held fuel 32 cs = some x) :
    ∃ ao cap l, cs = [.slice ao (List.length l) cap] ∧ RC w ao cap l ∧ ∀ m, (∀ y ∈ x.1.weights Try.prog 32, y ≤ m) → l.length * 8 ≤ m := by
  obtain ⟨ao, cap, l, h1, h2, h3, _, h5⟩ := open_rowM (fun x : Int => [Value.int .i64 x]) I64t 0 32 3 1 (fun _ => rfl) (fun _ v hv => by rw [List.mem_singleton.1 hv]; rfl) (by decide) Try.underlying32 cells3 intI_seg h
  rw [ci_flat] at h2
  rw [bytes3] at h5
  exact ⟨ao, cap, l, h1, ⟨h2, h3⟩, h5⟩
theorem rowB_seg {fuel : Nat} {cs : List Value} {x : DataW H × List MemPlace} (h : DataW.trod enc Try.prog w base spare held fuel 27 cs = some x) :
    ∃ ao cap l, cs = [.slice ao (List.length l) cap] ∧ RK kB w ao cap l := by
  obtain ⟨ao, cap, l, h1, h2, h3, _, _⟩ := open_rowM kB.E (fun _ => True) false 27 4 1 kB.len kB.one (by decide) Try.underlying27 cells4 bool_seg h
  exact ⟨ao, cap, l, h1, h2, h3⟩
theorem rowE_seg {fuel : Nat} {cs : List Value} {x : DataW H × List MemPlace} (h : DataW.trod enc Try.prog w base spare held fuel 22 cs = some x) :
    ∃ ao cap l, cs = [.slice ao (List.length l) cap] ∧ RE w ao cap l ∧ l.length ≤ maxLen := by
  obtain ⟨ao, cap, l, h1, h2, h3, h4, _⟩ := open_rowM enL En.ok zE 22 73 51 enL_len enL_one (by decide) Try.underlying22 cellsE en_of_trod h
  exact ⟨ao, cap, l, h1, ⟨h2, h3⟩, h4⟩
theorem se_seg {fuel : Nat} {l : List Value} {x : DataW H × List MemPlace} (h : DataW.trod enc Try.prog w base spare held fuel 26 l = some x) : ∃ (N : Int) (i : Nat), i < top ∧ l = .int .i64 N :: (idA i).toList := by
  obtain ⟨xs, n, rfl, hx, hl, hxl, hf⟩ := DataW.trod_struct Try.underlying26 h
  have hxl2 : xs.length = 2 := hxl
  have h0 : DataW.trod enc Try.prog w base spare held n 3 ((l.drop 0).take (Try.prog.cellsOf 3)) = xs[0]? := hf 0 _ rfl
  rw [cells3, List.getElem?_eq_getElem (by omega)] at h0
  have h1 : DataW.trod enc Try.prog w base spare held n 24 ((l.drop 1).take (Try.prog.cellsOf 24)) = xs[1]? := hf 1 _ rfl
  rw [cells29', List.getElem?_eq_getElem (by omega)] at h1
  rw [cells26] at hl
  obtain ⟨m, e0, _, wf0⟩ := DataW.trod_int Try.underlying3 h0
  obtain ⟨u, hu, e1⟩ := id_of_trod h1
  refine ⟨m, u, hu, ?_⟩
  rw [cut2 l 1 16 hl, e0, e1]
  rfl
set_option maxRecDepth 100000 in
theorem open_case {r : Reach} {b0 : Nat} {v : Value} {d : DataW H} {ps : List MemPlace} (hval : Value.okWide Try.prog w r b0 29 v) (hd : DataW.Trod enc Try.prog w base spare held 29 v d ps) :
    ∃ ae ce E most N i ap cq o, i < top ∧ v = .agg (csA ae (List.length E) ce most N i ap (List.length o) cq) ∧ RE w ae ce E ∧ E.length ≤ maxLen ∧ RK kB w ap cq o := by
  have hu := Try.underlying29
  simp only [Value.okWide, hu] at hval
  obtain ⟨cs, rfl, _, _⟩ := hval
  obtain ⟨fuel, hf⟩ := hd
  have hf' : DataW.trod enc Try.prog w base spare held fuel 29 cs.toList = some (d, ps) := hf
  obtain ⟨xs, n, rfl, hx, hl, hxl, hff⟩ := DataW.trod_struct Try.underlying29 hf'
  have hxl2 : xs.length = 4 := hxl
  have h0 : DataW.trod enc Try.prog w base spare held n 22 ((cs.toList.drop 0).take (Try.prog.cellsOf 22)) = xs[0]? := hff 0 _ rfl
  have h1 : DataW.trod enc Try.prog w base spare held n 3 ((cs.toList.drop 1).take (Try.prog.cellsOf 3)) = xs[1]? := hff 1 _ rfl
  have h2 : DataW.trod enc Try.prog w base spare held n 26 ((cs.toList.drop 2).take (Try.prog.cellsOf 26)) = xs[2]? := hff 2 _ rfl
  have h3 : DataW.trod enc Try.prog w base spare held n 27 ((cs.toList.drop 19).take (Try.prog.cellsOf 27)) = xs[3]? := hff 3 _ rfl
  obtain ⟨y0, y1, y2, y3, rfl⟩ : ∃ a b c e, xs = [a, b, c, e] := by
    match xs, hxl2 with
    | [a, b, c, e], _ => exact ⟨a, b, c, e, rfl⟩
  rw [cells22] at h0
  rw [cells3] at h1
  rw [cells26] at h2
  rw [cells27] at h3
  rw [cells29] at hl
  obtain ⟨ae, ce, E, e0, n1, n2⟩ := rowE_seg (show _ = some y0 from h0)
  obtain ⟨most, e1, _, _⟩ := DataW.trod_int Try.underlying3 (show _ = some y1 from h1)
  obtain ⟨N, i, hi, e2⟩ := se_seg (show _ = some y2 from h2)
  obtain ⟨ap, cq, o, e3, n3⟩ := rowB_seg (show _ = some y3 from h3)
  refine ⟨ae, ce, E, most, N, i, ap, cq, o, hi, ?_, n1, n2, n3⟩
  have : cs.toList = [Value.slice ae E.length ce, Value.int .i64 most, Value.int .i64 N] ++ ((idA i).toList ++ [Value.slice ap o.length cq]) := by
    rw [cutC cs.toList hl, e0, e1, e2, e3]
    rfl
  rw [csA, ← this]
/-! ### Frames -/
theorem frA_seg (f : Fr) : (frA f).toList = [.int .i64 f.kind] ++ ((c31 f.pw f.pn).toList ++ ([.bool f.toA] ++ ((c24 f.a).toList ++ ((c24 f.b).toList ++ ((frA f).toList.drop 51).take 5 ++ ([.slice f.tr.ao f.tr.n f.tr.cap] ++ (frA f).toList.drop 57))))) := by kernel_rfl
theorem frA_p (f : Fr) : ((frA f).toList.drop 1).take 17 = (c31 f.pw f.pn).toList := by kernel_rfl
theorem frA_a (f : Fr) : ((frA f).toList.drop 19).take 16 = (c24 f.a).toList := by kernel_rfl
theorem frA_b (f : Fr) : ((frA f).toList.drop 35).take 16 = (c24 f.b).toList := by kernel_rfl
theorem frA_t (f : Fr) : ((frA f).toList.drop 56).take 1 = [.slice f.tr.ao f.tr.n f.tr.cap] := by kernel_rfl
theorem frY_p (M : Msg) (ao : Option Addr) (cap : Nat) (g : Fr) : (c31 (frY M ao cap g).pw (frY M ao cap g).pn).toList = paL M.p := by kernel_rfl
theorem frY_5 (M : Msg) (ao : Option Addr) (cap : Nat) (g : Fr) : ((frA (frY M ao cap g)).toList.drop 51).take 5 = ((frA g).toList.drop 51).take 5 := by kernel_rfl
theorem frY_7 (M : Msg) (ao : Option Addr) (cap : Nat) (g : Fr) : (frA (frY M ao cap g)).toList.drop 57 = (frA g).toList.drop 57 := by kernel_rfl
theorem frA_eq {f : Fr} {p : Pa} {a b : Nat} {ao : Option Addr} {l : List Int} {cap : Nat} (hp : (c31 f.pw f.pn).toList = paL p) (ha : (c24 f.a).toList = (idA a).toList) (hb : (c24 f.b).toList = (idA b).toList) (ht : f.tr = ⟨ao, l.length, cap⟩) : frA f = frA (frY ⟨f.kind, p, a, b, l⟩ ao cap f) := by
  apply Array.toList_inj.1
  rw [frA_seg f, frA_seg (frY ⟨f.kind, p, a, b, l⟩ ao cap f), frY_p, frY_5, frY_7, hp, ha, hb, ht]
  have e1 : (c24 (frY ⟨f.kind, p, a, b, l⟩ ao cap f).a).toList = (idA a).toList := congrArg Array.toList (c24_id a)
  have e2 : (c24 (frY ⟨f.kind, p, a, b, l⟩ ao cap f).b).toList = (idA b).toList := congrArg Array.toList (c24_id b)
  rw [e1, e2]
  rfl
set_option maxRecDepth 100000 in
theorem open_frI {r : Reach} {b0 : Nat} {v : Value} {d : DataW H} {ps : List MemPlace} (hval : Value.okWide Try.prog w r b0 64 v) (hd : DataW.Trod enc Try.prog w base spare held 64 v d ps) :
    ∃ (M : Msg) (ao : Option Addr) (cap : Nat) (g : Fr) (dd : FD), M.ok ∧ v = .agg (frA (frY M ao cap g)) ∧ RC w ao cap M.l ∧ FrW w (frY M ao cap g) dd ∧ dd.tr = M.l ∧ ∀ m, (∀ y ∈ d.weights Try.prog 64, y ≤ m) → dd.ids.length * 16 ≤ m ∧ dd.val.length ≤ m ∧ dd.tx.length ≤ m := by
  obtain ⟨cs, rfl, _⟩ := okWide_struct Try.underlying64 hval
  obtain ⟨fuel, hf0⟩ := hd
  have hf : DataW.trod enc Try.prog w base spare held fuel 64 cs.toList = some (d, ps) := hf0
  obtain ⟨f, dd, e, HW, _, hm⟩ := fr_of_trod8 hf
  obtain ⟨xs, n, rfl, hx, hl, hxl, hff⟩ := DataW.trod_struct Try.underlying64 hf
  have hxl2 : xs.length = 14 := hxl
  have h1 : DataW.trod enc Try.prog w base spare held n 31 ((cs.toList.drop 1).take (Try.prog.cellsOf 31)) = xs[1]? := hff 1 _ rfl
  have h3 : DataW.trod enc Try.prog w base spare held n 24 ((cs.toList.drop 19).take (Try.prog.cellsOf 24)) = xs[3]? := hff 3 _ rfl
  have h4 : DataW.trod enc Try.prog w base spare held n 24 ((cs.toList.drop 35).take (Try.prog.cellsOf 24)) = xs[4]? := hff 4 _ rfl
  have h8 : DataW.trod enc Try.prog w base spare held n 32 ((cs.toList.drop 56).take (Try.prog.cellsOf 32)) = xs[8]? := hff 8 _ rfl
  rw [cells31, List.getElem?_eq_getElem (by omega)] at h1
  rw [cells29', List.getElem?_eq_getElem (by omega)] at h3 h4
  rw [cells32, List.getElem?_eq_getElem (by omega)] at h8
  obtain ⟨p, hp, e1⟩ := pa_of_trod h1
  obtain ⟨a, ha, e3⟩ := id_of_trod h3
  obtain ⟨b, hb, e4⟩ := id_of_trod h4
  obtain ⟨ao, cap, l, e8, n1, _⟩ := rowI_seg h8
  rw [e] at e1 e3 e4 e8
  rw [frA_p] at e1
  rw [frA_a] at e3
  rw [frA_b] at e4
  rw [frA_t] at e8
  have ht : f.tr = ⟨ao, l.length, cap⟩ := by
    injection e8 with e8 _
    injection e8 with i1 i2 i3
    cases hq : f.tr
    rw [hq] at i1 i2 i3
    simp only [] at i1 i2 i3
    subst i1 i2 i3
    rfl
  have hfe := frA_eq e1 e3 e4 ht
  refine ⟨⟨f.kind, p, a, b, l⟩, ao, cap, f, { dd with tr := l }, ⟨hp, ha, hb⟩, ?_, n1, ⟨n1.xc, HW.ids, HW.val, HW.tx, HW.oids, HW.oval, HW.otx⟩, rfl, fun m hw => (hm m hw).2⟩
  rw [Array.toList_inj.1 e, hfe]
end
end Go.Proofs.Ytkjnefgenffhcaa
