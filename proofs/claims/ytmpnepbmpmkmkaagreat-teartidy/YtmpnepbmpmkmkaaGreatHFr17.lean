/- Friends, spare paths, twins and first paths are the document's. -/
import Derived.Test.YtmpnepbmpmkmkaaGreatHV2
import Derived.Test.YtmpnepbmpmkmkaaGreatHX7
import Derived.Test.YtmpnepbmpmkmkaaGreatHP13
import Derived.Test.YtmpnepbmpmkmkaaGreatRows
import Derived.Test.YtmpnepbmpmkmkaaGreatHFr5
import Derived.ProofKit
namespace Go.Proofs.YtmpnepbmpmkmkaaGreat
open Go.RowKit Go.Maps
theorem twn_len (L : List En) : (twnL L).length ≤ L.length := Nat.le_trans (twT_len _ _) (own_len L)
end Go.Proofs.YtmpnepbmpmkmkaaGreat
namespace Go.Proofs.YtmpnepbmpmkmkaaGreat
open Go.ChangeShapes Go.WideShapes Go.ChangeAt Go.RowKit
theorem cellsE : Tryz.prog.cellsOf 33 = 51 := by kernel_rfl
theorem I64.of {x : Int} (h : (Lit.int .i64 x).wf = true) : I64 x := by
  have e1 : IntKind.i64.min = -9223372036854775808 := rfl
  have e2 : IntKind.i64.max = 9223372036854775807 := rfl
  simp [Lit.wf, e1, e2] at h
  unfold I64
  omega
theorem cut2 (l : List Value) (a b : Nat) (h : l.length = a + b) : l = (l.drop 0).take a ++ (l.drop a).take b := by
  rw [List.drop_zero]
  have e1 : (l.drop a).take b = l.drop a := List.take_of_length_le (by rw [List.length_drop]; omega)
  rw [e1, List.take_append_drop]
theorem cut5 (l : List Value) (h : l.length = 51) : l = (l.drop 0).take 17 ++ ((l.drop 17).take 16 ++ ((l.drop 33).take 16 ++ ((l.drop 49).take 1 ++ (l.drop 50).take 1))) := by
  rw [List.drop_zero]
  have e1 : (l.drop 50).take 1 = l.drop 50 := List.take_of_length_le (by rw [List.length_drop]; omega)
  have e2 : (l.drop 49).take 1 ++ l.drop 50 = l.drop 49 := by rw [show 50 = 49 + 1 from rfl, ← List.drop_drop, List.take_append_drop]
  have e3 : (l.drop 33).take 16 ++ l.drop 49 = l.drop 33 := by rw [show 49 = 33 + 16 from rfl, ← List.drop_drop, List.take_append_drop]
  have e4 : (l.drop 17).take 16 ++ l.drop 33 = l.drop 17 := by rw [show 33 = 17 + 16 from rfl, ← List.drop_drop, List.take_append_drop]
  rw [e1, e2, e3, e4, List.take_append_drop]
section
variable {H : Type} {enc : TypeId × Value → H} {w : World} {base : Nat} {spare : Nat → Bool} {held : Bool}
theorem pa_of_trod {fuel : Nat} {l : List Value} {x : DataW H × List MemPlace} (h : DataW.trod enc Tryz.prog w base spare held fuel 31 l = some x) : ∃ p : Pa, p.ok ∧ l = paL p := by
  obtain ⟨xs, n, rfl, hx, hl, hxl, hf⟩ := DataW.trod_struct Tryz.underlying31 h
  have hxl2 : xs.length = 2 := hxl
  have h0 : DataW.trod enc Tryz.prog w base spare held n 24 ((l.drop 0).take (Tryz.prog.cellsOf 24)) = xs[0]? := hf 0 _ rfl
  rw [cells29', List.getElem?_eq_getElem (by omega)] at h0
  have h1 : DataW.trod enc Tryz.prog w base spare held n 2 ((l.drop 16).take (Tryz.prog.cellsOf 2)) = xs[1]? := hf 1 _ rfl
  rw [cells2', List.getElem?_eq_getElem (by omega)] at h1
  rw [cells31] at hl
  obtain ⟨u, hu, e0⟩ := id_of_trod h0
  obtain ⟨m, e1, _, wf1⟩ := DataW.trod_int Tryz.underlying2 h1
  refine ⟨⟨u, m⟩, ⟨hu, I64.of wf1⟩, ?_⟩
  rw [cut2 l 16 1 hl, e0, e1]
  rfl
theorem en_of_trod {fuel : Nat} {l : List Value} {x : DataW H × List MemPlace} (h : DataW.trod enc Tryz.prog w base spare held fuel 33 l = some x) : ∃ p : En, p.ok ∧ l = enL p := by
  obtain ⟨xs, n, rfl, hx, hl, hxl, hf⟩ := DataW.trod_struct Tryz.underlying33 h
  have hxl2 : xs.length = 5 := hxl
  have h0 : DataW.trod enc Tryz.prog w base spare held n 31 ((l.drop 0).take (Tryz.prog.cellsOf 31)) = xs[0]? := hf 0 _ rfl
  rw [cells31, List.getElem?_eq_getElem (by omega)] at h0
  have h1 : DataW.trod enc Tryz.prog w base spare held n 24 ((l.drop 17).take (Tryz.prog.cellsOf 24)) = xs[1]? := hf 1 _ rfl
  rw [cells29', List.getElem?_eq_getElem (by omega)] at h1
  have h2 : DataW.trod enc Tryz.prog w base spare held n 24 ((l.drop 33).take (Tryz.prog.cellsOf 24)) = xs[2]? := hf 2 _ rfl
  rw [cells29', List.getElem?_eq_getElem (by omega)] at h2
  have h3 : DataW.trod enc Tryz.prog w base spare held n 3 ((l.drop 49).take (Tryz.prog.cellsOf 3)) = xs[3]? := hf 3 _ rfl
  rw [cells3, List.getElem?_eq_getElem (by omega)] at h3
  have h4 : DataW.trod enc Tryz.prog w base spare held n 3 ((l.drop 50).take (Tryz.prog.cellsOf 3)) = xs[4]? := hf 4 _ rfl
  rw [cells3, List.getElem?_eq_getElem (by omega)] at h4
  rw [cellsE] at hl
  obtain ⟨p, hp, e0⟩ := pa_of_trod h0
  obtain ⟨a, ha, e1⟩ := id_of_trod h1
  obtain ⟨b, hb, e2⟩ := id_of_trod h2
  obtain ⟨m, e3, _, wf3⟩ := DataW.trod_int Tryz.underlying3 h3
  obtain ⟨k, e4, _, wf4⟩ := DataW.trod_int Tryz.underlying3 h4
  refine ⟨⟨p, a, b, m, k⟩, ⟨hp, ha, hb, I64.of wf3, I64.of wf4⟩, ?_⟩
  rw [cut5 l hl, e0, e1, e2, e3, e4]
  rfl
/-- A slice of whatever, opened. -/
theorem open_rowM {α : Type} (E : α → List Value) (ok : α → Prop) (z : α) (t e sz : Nat) (hsz : ∀ x, (E x).length = sz) (hone : ∀ x, ∀ v ∈ E x, v.oneCell' = true) (hpos : 0 < sz) (hu : Tryz.prog.underlying t = some (.slice e)) (hc : Tryz.prog.cellsOf e = sz)
    (hE : ∀ {fuel : Nat} {l : List Value} {x : DataW H × List MemPlace}, DataW.trod enc Tryz.prog w base spare held fuel e l = some x → ∃ p : α, ok p ∧ l = E p)
    {fuel : Nat} {cs : List Value} {x : DataW H × List MemPlace} (hf : DataW.trod enc Tryz.prog w base spare held fuel t cs = some x) :
    ∃ ao cap l, cs = [.slice ao (List.length l) cap] ∧ XC w sz ao cap l.length (l.flatMap E) ∧ (∀ x ∈ l, ok x) ∧ l.length ≤ maxLen ∧ ∀ m, (∀ y ∈ x.1.weights Tryz.prog t, y ≤ m) → l.length * Tryz.prog.bytesOf e ≤ m := by
  rcases DataW.trod_slice hu hf with ⟨h0, _⟩ | ⟨a, len, cap, elems, rest, n, _, h0, hx, hb, hl, hm, hlen, hel, _, _⟩
  · exact ⟨none, 0, [], h0, XC.nil w sz, fun _ h => (by cases h), Nat.zero_le _, fun m _ => by simp⟩
  · have key : ∀ i, ∃ x, i < len → (ok x ∧ w.cells? base (a.add (i * sz)) sz = some (E x)) := fun i => by
      by_cases hi : i < len
      · have h1 := hel i hi
        rw [List.getElem?_eq_getElem (by omega), hc] at h1
        cases hcc : w.cells? base (a.add (i * sz)) sz with
        | none => rw [hcc] at h1; cases h1
        | some lst =>
          rw [hcc] at h1
          obtain ⟨x, hx, hh⟩ := hE h1
          exact ⟨x, fun _ => ⟨hx, by rw [hh]⟩⟩
      · exact ⟨z, fun h => absurd h hi⟩
    obtain ⟨f, hfun⟩ := Classical.axiomOfChoice key
    have hlen' : ((List.range len).map f).length = len := by simp
    refine ⟨some a, cap, (List.range len).map f, by rw [hlen']; exact h0, ⟨flx_len hsz _, by rw [hlen']; exact hl, fun h => (by cases h), fun ad ha j u hu => ?_, fun u hu => ?_⟩, fun x hx => ?_, by rw [hlen']; omega, fun m hw => ?_⟩
    · cases ha
      have hj := (List.getElem?_eq_some_iff.1 hu).1
      rw [flx_len hsz, hlen'] at hj
      have hq : j / sz < len := Nat.div_lt_of_lt_mul (by rw [Nat.mul_comm]; exact hj)
      have hr : j % sz < sz := Nat.mod_lt _ hpos
      have ej : j / sz * sz + j % sz = j := by rw [Nat.mul_comm]; exact Nat.div_add_mod j sz
      have h2 := flx_cell hsz z ((List.range len).map f) (j / sz) (by rw [hlen']; exact hq) (j % sz) hr
      rw [ej, hu] at h2
      have hg : ((List.range len).map f).getD (j / sz) z = f (j / sz) := by
        rw [List.getD_eq_getElem?_getD, List.getElem?_map, List.getElem?_range hq]
        rfl
      rw [hg] at h2
      have hcc := (World.cells?_some (hfun (j / sz) hq).2).2.2 (j % sz) hr
      rw [add_add, ej] at hcc
      rw [hcc]
      exact h2.symm
    · obtain ⟨x, _, hx⟩ := List.mem_flatMap.1 hu
      exact hone x u hx
    · obtain ⟨i, hi, rfl⟩ := List.mem_map.1 hx
      exact (hfun i (List.mem_range.1 hi)).1
    · have hd2 : x.1 = .slice (elems.map (·.1)) (rest.map (·.1)) := congrArg Prod.fst hx
      have h3 := hw ((elems.length + rest.length) * Tryz.prog.bytesOf e) (by
        rw [hd2, DataW.weights, hu]
        simp)
      rw [hlen']
      exact Nat.le_trans (Nat.mul_le_mul_right _ (by omega)) h3
theorem rowE_seg {fuel : Nat} {cs : List Value} {x : DataW H × List MemPlace} (h : DataW.trod enc Tryz.prog w base spare held fuel 22 cs = some x) :
    ∃ ao cap l, cs = [.slice ao (List.length l) cap] ∧ RE w ao cap l ∧ l.length ≤ maxLen := by
  obtain ⟨ao, cap, l, h1, h2, h3, h4, _⟩ := open_rowM enL En.ok zE 22 33 51 enL_len enL_one (by decide) Tryz.underlying22 cellsE en_of_trod h
  exact ⟨ao, cap, l, h1, ⟨h2, h3⟩, h4⟩
set_option maxRecDepth 100000 in
theorem open_rowE {r : Reach} {b0 : Nat} {v : Value} {d : DataW H} {ps : List MemPlace} (hval : Value.okWide Tryz.prog w r b0 22 v) (hd : DataW.Trod enc Tryz.prog w base spare held 22 v d ps) : ∃ ao cap l, v = .slice ao (List.length l) cap ∧ RE w ao cap l ∧ l.length ≤ maxLen := by
  obtain ⟨a0, len0, cap0, rfl⟩ := okWide_slice Tryz.underlying22 hval
  obtain ⟨fuel, hf⟩ := hd
  obtain ⟨ao, cap, l, h1, h2, h3⟩ := rowE_seg hf
  exact ⟨ao, cap, l, by simpa [Value.cells] using h1, h2, h3⟩
end
end Go.Proofs.YtmpnepbmpmkmkaaGreat
