/- Views and pairs of places, as arguments. -/
import Derived.Test.YtmjblbgalkjmiaaGreatRows
import Derived.Test.YtmjblbgalkjmiaaGreatBE1
import Derived.Test.YtmjblbgalkjmiaaGreatBFr
import Derived.ProofKit
namespace Go.Proofs.YtmjblbgalkjmiaaGreat
open Go.ChangeShapes Go.WideShapes Go.ChangeAt Go.RowKit
theorem czBo : Tryz.prog.cellsOf 4 = 1 := by kernel_rfl
theorem czId : Tryz.prog.cellsOf 25 = 16 := by kernel_rfl
theorem czI6 : Tryz.prog.cellsOf 2 = 1 := by kernel_rfl
theorem czNm : Tryz.prog.cellsOf 90 = 2 := by kernel_rfl
theorem czEn : Tryz.prog.cellsOf 93 = 25 := by kernel_rfl
theorem czVw : Tryz.prog.cellsOf 63 = 21 := by kernel_rfl
theorem czPr : Tryz.prog.cellsOf 23 = 2 := by kernel_rfl
theorem czIn : Tryz.prog.cellsOf 3 = 1 := by kernel_rfl
theorem czRw : Tryz.prog.cellsOf 91 = 1 := by kernel_rfl
theorem czEt : Tryz.prog.cellsOf 59 = 1 := by kernel_rfl
theorem czIt : Tryz.prog.cellsOf 60 = 1 := by kernel_rfl
theorem czEs : Tryz.prog.cellsOf 61 = 1 := by kernel_rfl
theorem cutNm (l : List Value) (h : l.length = 2) : l = (l.drop 0).take 1 ++ ((l.drop 1).take 1) := by
  rw [List.drop_zero]
  have e1 : (l.drop 1).take 1 = l.drop 1 := List.take_of_length_le (by rw [List.length_drop]; omega)
  rw [e1, List.take_append_drop]
theorem cutEn (l : List Value) (h : l.length = 25) : l = (l.drop 0).take 1 ++ ((l.drop 1).take 1 ++ ((l.drop 2).take 2 ++ ((l.drop 4).take 2 ++ ((l.drop 6).take 16 ++ ((l.drop 22).take 1 ++ ((l.drop 23).take 1 ++ ((l.drop 24).take 1))))))) := by
  rw [List.drop_zero]
  have e7 : (l.drop 24).take 1 = l.drop 24 := List.take_of_length_le (by rw [List.length_drop]; omega)
  have e6 : (l.drop 23).take 1 ++ l.drop 24 = l.drop 23 := by rw [show 24 = 23 + 1 from rfl, ← List.drop_drop, List.take_append_drop]
  have e5 : (l.drop 22).take 1 ++ l.drop 23 = l.drop 22 := by rw [show 23 = 22 + 1 from rfl, ← List.drop_drop, List.take_append_drop]
  have e4 : (l.drop 6).take 16 ++ l.drop 22 = l.drop 6 := by rw [show 22 = 6 + 16 from rfl, ← List.drop_drop, List.take_append_drop]
  have e3 : (l.drop 4).take 2 ++ l.drop 6 = l.drop 4 := by rw [show 6 = 4 + 2 from rfl, ← List.drop_drop, List.take_append_drop]
  have e2 : (l.drop 2).take 2 ++ l.drop 4 = l.drop 2 := by rw [show 4 = 2 + 2 from rfl, ← List.drop_drop, List.take_append_drop]
  have e1 : (l.drop 1).take 1 ++ l.drop 2 = l.drop 1 := by rw [show 2 = 1 + 1 from rfl, ← List.drop_drop, List.take_append_drop]
  rw [e7, e6, e5, e4, e3, e2, e1, List.take_append_drop]
theorem cutVw (l : List Value) (h : l.length = 21) : l = (l.drop 0).take 1 ++ ((l.drop 1).take 16 ++ ((l.drop 17).take 1 ++ ((l.drop 18).take 1 ++ ((l.drop 19).take 1 ++ ((l.drop 20).take 1))))) := by
  rw [List.drop_zero]
  have e5 : (l.drop 20).take 1 = l.drop 20 := List.take_of_length_le (by rw [List.length_drop]; omega)
  have e4 : (l.drop 19).take 1 ++ l.drop 20 = l.drop 19 := by rw [show 20 = 19 + 1 from rfl, ← List.drop_drop, List.take_append_drop]
  have e3 : (l.drop 18).take 1 ++ l.drop 19 = l.drop 18 := by rw [show 19 = 18 + 1 from rfl, ← List.drop_drop, List.take_append_drop]
  have e2 : (l.drop 17).take 1 ++ l.drop 18 = l.drop 17 := by rw [show 18 = 17 + 1 from rfl, ← List.drop_drop, List.take_append_drop]
  have e1 : (l.drop 1).take 16 ++ l.drop 17 = l.drop 1 := by rw [show 17 = 1 + 16 from rfl, ← List.drop_drop, List.take_append_drop]
  rw [e5, e4, e3, e2, e1, List.take_append_drop]
def VW.good (w : World) (x : VW) : Prop := kvw.ok x ∧ ∃ E, RK ken w x.no x.nc E ∧ x.nn = E.length
section
variable {H : Type} {enc : TypeId × Value → H} {w : World} {base : Nat} {spare : Nat → Bool} {held : Bool}
theorem open_rowV {α : Type} (E : α → List Value) (ok : α → Prop) (z : α) (t e sz : Nat) (hsz : ∀ x, (E x).length = sz) (hone : ∀ x, ∀ v ∈ E x, v.oneCell' = true) (hpos : 0 < sz) (hu : Tryz.prog.underlying t = some (.slice e)) (hc : Tryz.prog.cellsOf e = sz)
    (hE : ∀ {fuel : Nat} {l : List Value} {x : DataW H × List MemPlace}, DataW.trod enc Tryz.prog w base spare held fuel e l = some x → ∃ p : α, ok p ∧ l = E p)
    {fuel : Nat} {cs : List Value} {x : DataW H × List MemPlace} (hf : DataW.trod enc Tryz.prog w base spare held fuel t cs = some x) :
    ∃ ao cap l, cs = [.slice ao (List.length l) cap] ∧ XC w sz ao cap l.length (l.flatMap E) ∧ (∀ x ∈ l, ok x) ∧ l.length ≤ maxLen := by
  rcases DataW.trod_slice hu hf with ⟨h0, _⟩ | ⟨a, len, cap, elems, rest, n, _, h0, hx, hb, hl, hm, hlen, hel, _, _⟩
  · exact ⟨none, 0, [], h0, XC.nil w sz, fun _ h => (by cases h), Nat.zero_le _⟩
  · rw [hc] at hel
    have key : ∀ i, ∃ q : α, i < len → ok q ∧ w.cells? base (a.add (i * sz)) sz = some (E q) := fun i => by
      by_cases hi : i < len
      · have h1 := hel i hi
        rw [List.getElem?_eq_getElem (by omega)] at h1
        cases hcc : w.cells? base (a.add (i * sz)) sz with
        | none => rw [hcc] at h1; cases h1
        | some lst =>
          rw [hcc] at h1
          obtain ⟨q, hq, hh⟩ := hE (show _ = some elems[i] from h1)
          exact ⟨q, fun _ => ⟨hq, by rw [hh]⟩⟩
      · exact ⟨z, fun h => absurd h hi⟩
    obtain ⟨f, hfun⟩ := Classical.axiomOfChoice key
    have hlen' : ((List.range len).map f).length = len := by simp
    refine ⟨some a, cap, (List.range len).map f, by rw [hlen']; exact h0, ⟨flx_len hsz _, by rw [hlen']; exact hl, fun h => (by cases h), fun ad ha j u hu => ?_, fun u hu => ?_⟩, fun o ho => ?_, by rw [hlen']; exact Nat.le_trans hl hm⟩
    · cases ha
      have hj := (List.getElem?_eq_some_iff.1 hu).1
      rw [flx_len hsz, hlen'] at hj
      have hq : j / sz < len := Nat.div_lt_of_lt_mul (by rw [Nat.mul_comm]; exact hj)
      have hr : j % sz < sz := Nat.mod_lt _ hpos
      have ej : j / sz * sz + j % sz = j := by rw [Nat.mul_comm]; exact Nat.div_add_mod j sz
      have h2 := flx_cell hsz z ((List.range len).map f) (j / sz) (by rw [hlen']; exact hq) (j % sz) hr
      rw [ej, hu] at h2
      have hg : ((List.range len).map f).getD (j / sz) z = f (j / sz) := by
        rw [List.getD_eq_getElem?_getD, List.getElem?_map, List.getElem?_range hq]
        rfl
      rw [hg] at h2
      have hcc := (World.cells?_some (hfun (j / sz) hq).2).2.2 (j % sz) hr
      rw [add_add, ej] at hcc
      rw [hcc]
      exact h2.symm
    · obtain ⟨o, _, ho⟩ := List.mem_flatMap.1 hu
      exact hone o u ho
    · obtain ⟨i, hi, rfl⟩ := List.mem_map.1 ho
      exact (hfun i (List.mem_range.1 hi)).1
theorem sl_of_trod {t e fuel : Nat} {l : List Value} {x : DataW H × List MemPlace} (hu : Tryz.prog.underlying t = some (.slice e)) (h : DataW.trod enc Tryz.prog w base spare held fuel t l = some x) : ∃ ao n cap, n ≤ cap ∧ l = [.slice ao n cap] := by
  rcases DataW.trod_slice hu h with ⟨h0, _⟩ | ⟨a, len, cap, elems, rest, n, _, h0, hx, hb, hl, _⟩
  · exact ⟨none, 0, 0, Nat.le_refl _, h0⟩
  · exact ⟨some a, len, cap, hl, h0⟩
theorem nm_of_trod {fuel : Nat} {l : List Value} {x : DataW H × List MemPlace} (h : DataW.trod enc Tryz.prog w base spare held fuel 90 l = some x) : ∃ p : Int × Int, l = (nmA p).toList := by
  obtain ⟨xs, n, rfl, hx, hl, hxl, hf⟩ := DataW.trod_struct Tryz.underlying90 h
  have hxl2 : xs.length = 2 := hxl
  have h0 : DataW.trod enc Tryz.prog w base spare held n 2 ((l.drop 0).take (Tryz.prog.cellsOf 2)) = xs[0]? := hf 0 _ rfl
  rw [czI6, List.getElem?_eq_getElem (by omega)] at h0
  have h1 : DataW.trod enc Tryz.prog w base spare held n 2 ((l.drop 1).take (Tryz.prog.cellsOf 2)) = xs[1]? := hf 1 _ rfl
  rw [czI6, List.getElem?_eq_getElem (by omega)] at h1
  rw [czNm] at hl
  obtain ⟨a, e0, _, _⟩ := DataW.trod_int Tryz.underlying2 h0
  obtain ⟨b, e1, _, _⟩ := DataW.trod_int Tryz.underlying2 h1
  refine ⟨(a, b), ?_⟩
  rw [cutNm l hl, e0, e1]
  rfl
theorem en_of_trod {fuel : Nat} {l : List Value} {x : DataW H × List MemPlace} (h : DataW.trod enc Tryz.prog w base spare held fuel 93 l = some x) : ∃ p : EN, ken.ok p ∧ l = ken.E p := by
  obtain ⟨xs, n, rfl, hx, hl, hxl, hf⟩ := DataW.trod_struct Tryz.underlying93 h
  have hxl2 : xs.length = 8 := hxl
  have h0 : DataW.trod enc Tryz.prog w base spare held n 4 ((l.drop 0).take (Tryz.prog.cellsOf 4)) = xs[0]? := hf 0 _ rfl
  rw [czBo, List.getElem?_eq_getElem (by omega)] at h0
  have h1 : DataW.trod enc Tryz.prog w base spare held n 4 ((l.drop 1).take (Tryz.prog.cellsOf 4)) = xs[1]? := hf 1 _ rfl
  rw [czBo, List.getElem?_eq_getElem (by omega)] at h1
  have h2 : DataW.trod enc Tryz.prog w base spare held n 90 ((l.drop 2).take (Tryz.prog.cellsOf 90)) = xs[2]? := hf 2 _ rfl
  rw [czNm, List.getElem?_eq_getElem (by omega)] at h2
  have h3 : DataW.trod enc Tryz.prog w base spare held n 90 ((l.drop 4).take (Tryz.prog.cellsOf 90)) = xs[3]? := hf 3 _ rfl
  rw [czNm, List.getElem?_eq_getElem (by omega)] at h3
  have h4 : DataW.trod enc Tryz.prog w base spare held n 25 ((l.drop 6).take (Tryz.prog.cellsOf 25)) = xs[4]? := hf 4 _ rfl
  rw [czId, List.getElem?_eq_getElem (by omega)] at h4
  have h5 : DataW.trod enc Tryz.prog w base spare held n 2 ((l.drop 22).take (Tryz.prog.cellsOf 2)) = xs[5]? := hf 5 _ rfl
  rw [czI6, List.getElem?_eq_getElem (by omega)] at h5
  have h6 : DataW.trod enc Tryz.prog w base spare held n 91 ((l.drop 23).take (Tryz.prog.cellsOf 91)) = xs[6]? := hf 6 _ rfl
  rw [czRw, List.getElem?_eq_getElem (by omega)] at h6
  have h7 : DataW.trod enc Tryz.prog w base spare held n 2 ((l.drop 24).take (Tryz.prog.cellsOf 2)) = xs[7]? := hf 7 _ rfl
  rw [czI6, List.getElem?_eq_getElem (by omega)] at h7
  rw [czEn] at hl
  obtain ⟨a, e0, _⟩ := DataW.trod_bool Tryz.underlying4 h0
  obtain ⟨b, e1, _⟩ := DataW.trod_bool Tryz.underlying4 h1
  obtain ⟨p, e2⟩ := nm_of_trod h2
  obtain ⟨q, e3⟩ := nm_of_trod h3
  obtain ⟨d, _, e4⟩ := id_of_trod h4
  obtain ⟨k, e5, _, _⟩ := DataW.trod_int Tryz.underlying2 h5
  obtain ⟨oo, on, oc, hle, e6⟩ := sl_of_trod Tryz.underlying91 h6
  obtain ⟨g, e7, _, _⟩ := DataW.trod_int Tryz.underlying2 h7
  refine ⟨⟨a, b, p, q, d, k, oo, on, oc, g⟩, hle, ?_⟩
  rw [cutEn l hl, e0, e1, e2, e3, e4, e5, e6, e7]
  rfl
theorem ens_of_trod {fuel : Nat} {l : List Value} {x : DataW H × List MemPlace} (h : DataW.trod enc Tryz.prog w base spare held fuel 61 l = some x) : ∃ ao cap L, l = [.slice ao (List.length L) cap] ∧ RK ken w ao cap L := by
  obtain ⟨ao, cap, L, h1, h2, h3, _⟩ := open_rowV ken.E ken.ok zE 61 93 25 ken.len ken.one (by decide) Tryz.underlying61 czEn en_of_trod h
  exact ⟨ao, cap, L, h1, ⟨h2, h3⟩⟩
theorem vw_of_trod {fuel : Nat} {l : List Value} {x : DataW H × List MemPlace} (h : DataW.trod enc Tryz.prog w base spare held fuel 63 l = some x) : ∃ p : VW, p.good w ∧ l = kvw.E p := by
  obtain ⟨xs, n, rfl, hx, hl, hxl, hf⟩ := DataW.trod_struct Tryz.underlying63 h
  have hxl2 : xs.length = 6 := hxl
  have h0 : DataW.trod enc Tryz.prog w base spare held n 4 ((l.drop 0).take (Tryz.prog.cellsOf 4)) = xs[0]? := hf 0 _ rfl
  rw [czBo, List.getElem?_eq_getElem (by omega)] at h0
  have h1 : DataW.trod enc Tryz.prog w base spare held n 25 ((l.drop 1).take (Tryz.prog.cellsOf 25)) = xs[1]? := hf 1 _ rfl
  rw [czId, List.getElem?_eq_getElem (by omega)] at h1
  have h2 : DataW.trod enc Tryz.prog w base spare held n 2 ((l.drop 17).take (Tryz.prog.cellsOf 2)) = xs[2]? := hf 2 _ rfl
  rw [czI6, List.getElem?_eq_getElem (by omega)] at h2
  have h3 : DataW.trod enc Tryz.prog w base spare held n 59 ((l.drop 18).take (Tryz.prog.cellsOf 59)) = xs[3]? := hf 3 _ rfl
  rw [czEt, List.getElem?_eq_getElem (by omega)] at h3
  have h4 : DataW.trod enc Tryz.prog w base spare held n 60 ((l.drop 19).take (Tryz.prog.cellsOf 60)) = xs[4]? := hf 4 _ rfl
  rw [czIt, List.getElem?_eq_getElem (by omega)] at h4
  have h5 : DataW.trod enc Tryz.prog w base spare held n 61 ((l.drop 20).take (Tryz.prog.cellsOf 61)) = xs[5]? := hf 5 _ rfl
  rw [czEs, List.getElem?_eq_getElem (by omega)] at h5
  rw [czVw] at hl
  obtain ⟨a, e0, _⟩ := DataW.trod_bool Tryz.underlying4 h0
  obtain ⟨d, _, e1⟩ := id_of_trod h1
  obtain ⟨k, e2, _, _⟩ := DataW.trod_int Tryz.underlying2 h2
  obtain ⟨eo, en, ec, hle, e3⟩ := sl_of_trod Tryz.underlying59 h3
  obtain ⟨io, ik, ic, _, e4⟩ := sl_of_trod Tryz.underlying60 h4
  obtain ⟨no, nc, E, e5, HE⟩ := ens_of_trod h5
  refine ⟨⟨a, d, k, eo, en, ec, io, ik, ic, no, E.length, nc⟩, ⟨hle, E, HE, rfl⟩, ?_⟩
  rw [cutVw l hl, e0, e1, e2, e3, e4, e5]
  rfl
theorem pr_of_trod {fuel : Nat} {l : List Value} {x : DataW H × List MemPlace} (h : DataW.trod enc Tryz.prog w base spare held fuel 23 l = some x) : ∃ p : Int × Int, kP.ok p ∧ l = kP.E p := by
  obtain ⟨xs, n, rfl, hx, hl, hxl, hel⟩ := DataW.trod_array Tryz.underlying23 h
  rw [czIn] at hel
  rw [czPr] at hl
  have h0 := hel 0 (by decide)
  have h1 := hel 1 (by decide)
  rw [List.getElem?_eq_getElem (by omega)] at h0 h1
  obtain ⟨a, e0, _, _⟩ := DataW.trod_int Tryz.underlying3 h0
  obtain ⟨b, e1, _, _⟩ := DataW.trod_int Tryz.underlying3 h1
  refine ⟨(a, b), trivial, ?_⟩
  have f0 : (l.drop 0).take 1 = [.int .i64 a] := e0
  have f1 : (l.drop 1).take 1 = [.int .i64 b] := e1
  rw [cutNm l hl, f0, f1]
  rfl
set_option maxRecDepth 100000 in
theorem open_vws {r : Reach} {b0 : Nat} {v : Value} {d : DataW H} {ps : List MemPlace} (hval : Value.okWide Tryz.prog w r b0 22 v) (hd : DataW.Trod enc Tryz.prog w base spare held 22 v d ps) : ∃ ao cap l, v = .slice ao (List.length l) cap ∧ RK kvw w ao cap l ∧ ∀ x ∈ l, VW.good w x := by
  obtain ⟨a0, len0, cap0, rfl⟩ := okWide_slice Tryz.underlying22 hval
  obtain ⟨fuel, hf⟩ := hd
  obtain ⟨ao, cap, l, h1, h2, h3, _⟩ := open_rowV kvw.E (VW.good w) zW 22 63 21 kvw.len kvw.one (by decide) Tryz.underlying22 czVw vw_of_trod hf
  exact ⟨ao, cap, l, by simpa [Value.cells] using h1, ⟨h2, fun x hx => (h3 x hx).1⟩, h3⟩
set_option maxRecDepth 100000 in
theorem open_prs {r : Reach} {b0 : Nat} {v : Value} {d : DataW H} {ps : List MemPlace} (hval : Value.okWide Tryz.prog w r b0 43 v) (hd : DataW.Trod enc Tryz.prog w base spare held 43 v d ps) : ∃ ao cap l, v = .slice ao (List.length l) cap ∧ RK kP w ao cap l ∧ l.length ≤ 9223372036854775807 := by
  obtain ⟨a0, len0, cap0, rfl⟩ := okWide_slice Tryz.underlying43 hval
  obtain ⟨fuel, hf⟩ := hd
  obtain ⟨ao, cap, l, h1, h2, h3, h4⟩ := open_rowV kP.E kP.ok (0, 0) 43 23 2 kP.len kP.one (by decide) Tryz.underlying43 czPr pr_of_trod hf
  exact ⟨ao, cap, l, by simpa [Value.cells] using h1, ⟨h2, h3⟩, Nat.le_trans h4 (by decide)⟩
theorem vw_at {l : List VW} (HG : ∀ x ∈ l, VW.good w x) : ∀ i, i < l.length → ∃ E, RK ken w (l.getD i zW).no (l.getD i zW).nc E ∧ (l.getD i zW).nn = E.length := fun i hi => by
  have e : l.getD i zW = l[i] := by
    rw [List.getD_eq_getElem?_getD, List.getElem?_eq_getElem hi]
    rfl
  rw [e]
  exact (HG _ (List.getElem_mem hi)).2
end
end Go.Proofs.YtmjblbgalkjmiaaGreat
