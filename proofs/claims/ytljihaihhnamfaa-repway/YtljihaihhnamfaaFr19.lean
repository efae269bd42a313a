/- Worlds (identities, links, what was heard ahead) as arguments. -/
import Derived.Test.YtljihaihhnamfaaFr18
import Derived.Test.YtljihaihhnamfaaC1
namespace Go.Proofs.Ytljihaihhnamfaa
open Go.ChangeShapes Go.WideShapes Go.ChangeAt Go.RowKit

theorem cellsP : Try.prog.cellsOf 60 = 2 := by kernel_rfl
theorem cells24 : Try.prog.cellsOf 24 = 1 := by kernel_rfl
theorem cells41 : Try.prog.cellsOf 41 = 1 := by kernel_rfl
theorem cells42 : Try.prog.cellsOf 42 = 1 := by kernel_rfl
theorem cells43 : Try.prog.cellsOf 43 = 1 := by kernel_rfl
theorem cells45 : Try.prog.cellsOf 45 = 3 := by kernel_rfl
theorem cut2 (l : List Value) (h : l.length = 2) : l = (l.drop 0).take 1 ++ (l.drop 1).take 1 := by
  rw [List.drop_zero]
  have e1 : (l.drop 1).take 1 = l.drop 1 := List.take_of_length_le (by rw [List.length_drop]; omega)
  rw [e1, List.take_append_drop]
theorem cut3 (l : List Value) (h : l.length = 3) : l = (l.drop 0).take 1 ++ ((l.drop 1).take 1 ++ (l.drop 2).take 1) := by
  rw [List.drop_zero]
  have e1 : (l.drop 2).take 1 = l.drop 2 := List.take_of_length_le (by rw [List.length_drop]; omega)
  have e2 : (l.drop 1).take 1 ++ l.drop 2 = l.drop 1 := by rw [show 2 = 1 + 1 from rfl, ← List.drop_drop, List.take_append_drop]
  rw [e1, e2, List.take_append_drop]
section
variable {H : Type} {enc : TypeId × Value → H} {w : World} {base : Nat} {spare : Nat → Bool} {held : Bool}
theorem pr_of_trod {fuel : Nat} {l : List Value} {x : DataW H × List MemPlace} (h : DataW.trod enc Try.prog w base spare held fuel 60 l = some x) : ∃ p : Int × Int, (I64 p.1 ∧ I64 p.2) ∧ l = prL p := by
  obtain ⟨xs, m, _, _, hl, hx, he⟩ := DataW.trod_array Try.underlying60 h
  rw [cellsP] at hl
  have h0 := he 0 (by decide)
  have h1 := he 1 (by decide)
  rw [List.getElem?_eq_getElem (by omega), cells3] at h0 h1
  obtain ⟨a, e0, _, wf0⟩ := DataW.trod_int Try.underlying3 h0
  obtain ⟨b, e1, _, wf1⟩ := DataW.trod_int Try.underlying3 h1
  refine ⟨(a, b), ⟨I64.of wf0, I64.of wf1⟩, ?_⟩
  rw [cut2 l hl, e0, e1]
  rfl
theorem rv_of_trod {fuel : Nat} {l : List Value} {x : DataW H × List MemPlace} (h : DataW.trod enc Try.prog w base spare held fuel 24 l = some x) : ∃ r : RVh, (RK kH w r.ao r.cap r.l ∧ r.l.length ≤ maxLen) ∧ l = kS.E r := by
  obtain ⟨ao, cap, l, h1, h2, h3, _⟩ := rowH_seg h
  exact ⟨⟨ao, cap, l⟩, ⟨h2, h3⟩, h1⟩
theorem rowI_seg {fuel : Nat} {cs : List Value} {x : DataW H × List MemPlace} (h : DataW.trod enc Try.prog w base spare held fuel 41 cs = some x) :
    ∃ ao cap l, cs = [.slice ao (List.length l) cap] ∧ RK kI w ao cap l ∧ l.length ≤ maxLen := by
  obtain ⟨ao, cap, l, h1, h2, h3, h4, _⟩ := open_rowM kI.E (fun n => n < top) 0 41 23 16 kI.len kI.one (by decide) Try.underlying41 cells23 id_of_trod h
  exact ⟨ao, cap, l, h1, ⟨h2, h3⟩, h4⟩
theorem rowP_seg {fuel : Nat} {cs : List Value} {x : DataW H × List MemPlace} (h : DataW.trod enc Try.prog w base spare held fuel 42 cs = some x) :
    ∃ ao cap l, cs = [.slice ao (List.length l) cap] ∧ RK kP w ao cap l ∧ l.length ≤ maxLen := by
  obtain ⟨ao, cap, l, h1, h2, h3, h4, _⟩ := open_rowM kP.E (fun x => I64 x.1 ∧ I64 x.2) (0, 0) 42 60 2 kP.len kP.one (by decide) Try.underlying42 cellsP pr_of_trod h
  exact ⟨ao, cap, l, h1, ⟨h2, h3⟩, h4⟩
theorem rowS_seg {fuel : Nat} {cs : List Value} {x : DataW H × List MemPlace} (h : DataW.trod enc Try.prog w base spare held fuel 43 cs = some x) :
    ∃ ao cap l, cs = [.slice ao (List.length l) cap] ∧ RK kS w ao cap l ∧ l.length ≤ maxLen ∧ ∀ i, i < l.length → RK kH w (l.getD i zR).ao (l.getD i zR).cap (l.getD i zR).l ∧ (l.getD i zR).l.length ≤ maxLen := by
  obtain ⟨ao, cap, l, h1, h2, h3, h4, _⟩ := open_rowM kS.E (fun r => RK kH w r.ao r.cap r.l ∧ r.l.length ≤ maxLen) zR 43 24 1 kS.len kS.one (by decide) Try.underlying43 cells24 rv_of_trod h
  refine ⟨ao, cap, l, h1, ⟨h2, fun _ _ => trivial⟩, h4, fun i hi => ?_⟩
  have : l.getD i zR = l[i] := by simp [List.getD_eq_getElem?_getD, hi]
  rw [this]
  exact h3 _ (List.getElem_mem hi)
set_option maxRecDepth 100000 in
theorem open_wd {r : Reach} {b0 : Nat} {v : Value} {d : DataW H} {ps : List MemPlace} (hval : Value.okWide Try.prog w r b0 45 v) (hd : DataW.Trod enc Try.prog w base spare held 45 v d ps) :
    ∃ ai ci I al cl Lk ah ch Hs, v = .agg (wdA ai (List.length I) ci al (List.length Lk) cl ah (List.length Hs) ch) ∧ (RK kI w ai ci I ∧ I.length ≤ maxLen) ∧ (RK kP w al cl Lk ∧ Lk.length ≤ maxLen) ∧ (RK kS w ah ch Hs ∧ Hs.length ≤ maxLen) ∧ ∀ i, i < Hs.length → RK kH w (Hs.getD i zR).ao (Hs.getD i zR).cap (Hs.getD i zR).l ∧ (Hs.getD i zR).l.length ≤ maxLen := by
  have hu := Try.underlying45
  simp only [Value.okWide, hu] at hval
  obtain ⟨cs, rfl, _, _⟩ := hval
  obtain ⟨fuel, hf⟩ := hd
  have hf' : DataW.trod enc Try.prog w base spare held fuel 45 cs.toList = some (d, ps) := hf
  obtain ⟨xs, n, rfl, hx, hl, hxl, hff⟩ := DataW.trod_struct Try.underlying45 hf'
  have hxl2 : xs.length = 3 := hxl
  have h0 : DataW.trod enc Try.prog w base spare held n 41 ((cs.toList.drop 0).take (Try.prog.cellsOf 41)) = xs[0]? := hff 0 _ rfl
  have h1 : DataW.trod enc Try.prog w base spare held n 42 ((cs.toList.drop 1).take (Try.prog.cellsOf 42)) = xs[1]? := hff 1 _ rfl
  have h2 : DataW.trod enc Try.prog w base spare held n 43 ((cs.toList.drop 2).take (Try.prog.cellsOf 43)) = xs[2]? := hff 2 _ rfl
  rw [cells41, List.getElem?_eq_getElem (by omega)] at h0
  rw [cells42, List.getElem?_eq_getElem (by omega)] at h1
  rw [cells43, List.getElem?_eq_getElem (by omega)] at h2
  rw [cells45] at hl
  obtain ⟨ai, ci, I, e0, n0, m0⟩ := rowI_seg h0
  obtain ⟨al, cl, Lk, e1, n1, m1⟩ := rowP_seg h1
  obtain ⟨ah, ch, Hs, e2, n2, m2, k2⟩ := rowS_seg h2
  refine ⟨ai, ci, I, al, cl, Lk, ah, ch, Hs, ?_, ⟨n0, m0⟩, ⟨n1, m1⟩, ⟨n2, m2⟩, k2⟩
  have : cs.toList = [Value.slice ai I.length ci, Value.slice al Lk.length cl, Value.slice ah Hs.length ch] := by
    rw [cut3 cs.toList hl, e0, e1, e2]
    rfl
  congr 1
  exact Array.toList_inj.1 this
end
end Go.Proofs.Ytljihaihhnamfaa
