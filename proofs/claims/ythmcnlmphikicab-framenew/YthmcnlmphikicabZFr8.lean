/- A frame as an argument, and how long its rows may be. -/
import Derived.Test.YthmcnlmphikicabZK3
namespace Go.Proofs.Ythmcnlmphikicab
open Go.RowKit
open Go.ChangeShapes Go.WideShapes Go.ChangeAt Go.RowKit
section
variable {H : Type} {enc : TypeId × Value → H} {w : World} {base : Nat} {spare : Nat → Bool} {held : Bool}
theorem tr_seg8 {fuel : Nat} {cs : List Value} {x : DataW H × List MemPlace} (h : DataW.trod enc Try.prog w base spare held fuel 32 cs = some x) :
    ∃ (s : Sl) (l : List Int), cs = [.slice s.ao s.n s.cap] ∧ XC w 1 s.ao s.cap s.n (l.map (Value.int .i64 ·)) ∧ ∀ m, (∀ y ∈ x.1.weights Try.prog 32, y ≤ m) → l.length * 8 ≤ m := by
  rcases open_ints Try.underlying32 Try.underlying3 ck3 h with ⟨hcs, hx⟩ | ⟨a, len, cap, zs, hcs, _, hl, hm, hz, hx, hcell, hwz⟩
  · exact ⟨Sl.nil, [], hcs, XC.nil _ _, fun m _ => by simp⟩
  · have hle : len ≤ zs.length := by rw [hz]; split <;> omega
    have hlen : (zs.take len).length = len := by simp; omega
    refine ⟨⟨some a, len, cap⟩, zs.take len, hcs, ⟨by simp; omega, hl, fun h => by (cases h), fun ad ha j v hv => ?_, fun v hv => ?_⟩, fun m hm2 => ?_⟩
    · cases ha
      rw [List.getElem?_map] at hv
      have hj : j < len := by
        cases hq : decide (j < len)
        · rw [List.getElem?_eq_none (by have := of_decide_eq_false hq; omega)] at hv
          cases hv
        · exact of_decide_eq_true hq
      rw [List.getElem?_take, if_pos hj, List.getElem?_eq_getElem (by omega)] at hv
      rw [hcell j (by omega), List.getD_eq_getElem?_getD, List.getElem?_eq_getElem (by omega)]
      simpa using hv
    · obtain ⟨z, _, rfl⟩ := List.mem_map.1 hv
      rfl
    · have := hm2 (((lits .i64 (zs.take len)).length + (lits .i64 (zs.drop len)).length) * Try.prog.bytesOf 3) (by
        rw [hx, DataW.weights, Try.underlying32]
        exact List.mem_cons_self)
      rw [bk3] at this
      have h2 : (lits (H := H) .i64 (zs.take len)).length = len := by simp [lits]; omega
      rw [h2] at this
      rw [hlen]
      omega
theorem row_seg8 {fuel : Nat} {cs : List Value} {x : DataW H × List MemPlace} (h : DataW.trod enc Try.prog w base spare held fuel 36 cs = some x) :
    ∃ (s : Sl) (l : List Nat), cs = [.slice s.ao s.n s.cap] ∧ XC w 1 s.ao s.cap s.n (bL l) ∧ (∀ y ∈ l, y < 256) ∧ ∀ m, (∀ y ∈ x.1.weights Try.prog 36, y ≤ m) → l.length ≤ m := by
  obtain ⟨ao, cap, l, e, nc, _, ha⟩ := open_row bT cells5 rfl h
  refine ⟨⟨ao, l.length, cap⟩, l, e, nc.xc, nc.lt256, fun m hm => ?_⟩
  rcases ha with ⟨_, rfl⟩ | ⟨el, sp, hd, hl⟩
  · simp
  · have := hm ((el.length + sp.length) * Try.prog.bytesOf 5) (by
      rw [hd, DataW.weights, Try.underlying36]
      exact List.mem_cons_self)
    rw [bytes5] at this
    omega
theorem ids_seg8 {fuel : Nat} {cs : List Value} {x : DataW H × List MemPlace} (h : DataW.trod enc Try.prog w base spare held fuel 33 cs = some x) :
    ∃ (s : Sl) (l : List (List Nat)), cs = [.slice s.ao s.n s.cap] ∧ XC w 16 s.ao s.cap s.n (cellsI l) ∧ ok16 l ∧ ∀ m, (∀ y ∈ x.1.weights Try.prog 33, y ≤ m) → l.length * 16 ≤ m := by
  rcases DataW.trod_slice Try.underlying33 h with ⟨hcs, hx⟩ | ⟨a, len, cap, elems, rest, n, _, hcs, hx, _, hl, _, hel, hei, _, _⟩
  · exact ⟨Sl.nil, [], hcs, XC.nil _ _, fun x hx => by (cases hx), fun m _ => by simp⟩
  · rw [cells23] at hei
    have each : ∀ i, ∃ y : Nat → Nat, i < len → okI y ∧ ∀ r, r < 16 → w.cell? (a.add (i * 16 + r)) = (bL (idL y))[r]? := by
      intro i
      by_cases hi : i < len
      · have h1 := hei i hi
        rw [List.getElem?_eq_getElem (by omega)] at h1
        cases hc : w.cells? base (a.add (i * 16)) 16 with
        | none => rw [hc] at h1; cases h1
        | some cs2 =>
          rw [hc] at h1
          obtain ⟨y, e, hy⟩ := id_seg (show DataW.trod enc Try.prog w base spare held n 27 cs2 = some elems[i] from h1)
          refine ⟨y, fun _ => ⟨hy, fun r hr => ?_⟩⟩
          have := (World.cells?_some hc).2.2 r hr
          rw [add_add, e] at this
          exact this
      · exact ⟨fun _ => 0, fun h => absurd h hi⟩
    obtain ⟨F, hF⟩ := Classical.axiomOfChoice each
    have hlen : ((List.range len).map fun i => idL (F i)).length = len := by simp
    have hok : ok16 ((List.range len).map fun i => idL (F i)) := fun x hx => by
      obtain ⟨i, hi, rfl⟩ := List.mem_map.1 hx
      exact ⟨idL_len _, idL_lt (hF i (List.mem_range.1 hi)).1⟩
    refine ⟨⟨some a, len, cap⟩, (List.range len).map fun i => idL (F i), hcs, ⟨?_, hl, fun h => by (cases h), fun ad ha j v hv => ?_, fun v hv => ?_⟩, hok, fun m hm => ?_⟩
    · rw [cellsI_len hok, hlen]
    · cases ha
      have hj : j < len * 16 := by
        have := (List.getElem?_eq_some_iff.1 hv).1
        rwa [cellsI_len hok, hlen] at this
      have h3 := cellsI_at _ (j / 16) hok (by rw [hlen]; omega)
      have h4 : ((List.range len).map fun i => idL (F i)).getD (j / 16) [] = idL (F (j / 16)) := by
        simp [List.getD_eq_getElem?_getD, show j / 16 < len by omega]
      rw [h4] at h3
      have h5 := (hF (j / 16) (by omega)).2 (j % 16) (Nat.mod_lt _ (by decide))
      rw [← h3, List.getElem?_take, if_pos (Nat.mod_lt _ (by decide)), List.getElem?_drop, show j / 16 * 16 + j % 16 = j by omega, hv] at h5
      exact h5
    · obtain ⟨x, _, hx2⟩ := List.mem_flatMap.1 hv
      obtain ⟨r, _, rfl⟩ := List.mem_map.1 hx2
      rfl
    · have hd2 : x.1 = .slice (elems.map (·.1)) (rest.map (·.1)) := congrArg Prod.fst hx
      have := hm ((elems.length + rest.length) * Try.prog.bytesOf 27) (by
        rw [hd2, DataW.weights, Try.underlying33]
        simp)
      rw [bk23] at this
      rw [hlen]
      omega
set_option maxRecDepth 100000 in
theorem fr_of_trod8 {fuel : Nat} {cs : List Value} {x : DataW H × List MemPlace} (h : DataW.trod enc Try.prog w base spare held fuel 40 cs = some x) :
    ∃ (f : Fr) (d : FD), cs = (frA f).toList ∧ FrW w f d ∧ FrR f ∧ ∀ m, (∀ y ∈ x.1.weights Try.prog 40, y ≤ m) → d.tr.length * 8 ≤ m ∧ d.ids.length * 16 ≤ m ∧ d.val.length ≤ m ∧ d.tx.length ≤ m := by
  obtain ⟨xs, n, _, hx, hl, hxl, hf⟩ := DataW.trod_struct Try.underlying40 h
  have hxl : xs.length = 14 := hxl
  rw [ck36] at hl
  obtain ⟨x0, hx0⟩ : ∃ y, xs[0]? = some y := ⟨_, List.getElem?_eq_getElem (by omega)⟩
  have g0 : DataW.trod enc Try.prog w base spare held n 3 ((cs.drop 0).take (Try.prog.cellsOf 3)) = some x0 := by rw [← hx0]; exact hf 0 _ rfl
  rw [ck3] at g0
  obtain ⟨x1, hx1⟩ : ∃ y, xs[1]? = some y := ⟨_, List.getElem?_eq_getElem (by omega)⟩
  have g1 : DataW.trod enc Try.prog w base spare held n 29 ((cs.drop 1).take (Try.prog.cellsOf 29)) = some x1 := by rw [← hx1]; exact hf 1 _ rfl
  rw [ck25] at g1
  obtain ⟨x2, hx2⟩ : ∃ y, xs[2]? = some y := ⟨_, List.getElem?_eq_getElem (by omega)⟩
  have g2 : DataW.trod enc Try.prog w base spare held n 4 ((cs.drop 18).take (Try.prog.cellsOf 4)) = some x2 := by rw [← hx2]; exact hf 2 _ rfl
  rw [ck4] at g2
  obtain ⟨x3, hx3⟩ : ∃ y, xs[3]? = some y := ⟨_, List.getElem?_eq_getElem (by omega)⟩
  have g3 : DataW.trod enc Try.prog w base spare held n 27 ((cs.drop 19).take (Try.prog.cellsOf 27)) = some x3 := by rw [← hx3]; exact hf 3 _ rfl
  rw [cells23] at g3
  obtain ⟨x4, hx4⟩ : ∃ y, xs[4]? = some y := ⟨_, List.getElem?_eq_getElem (by omega)⟩
  have g4 : DataW.trod enc Try.prog w base spare held n 27 ((cs.drop 35).take (Try.prog.cellsOf 27)) = some x4 := by rw [← hx4]; exact hf 4 _ rfl
  rw [cells23] at g4
  obtain ⟨x5, hx5⟩ : ∃ y, xs[5]? = some y := ⟨_, List.getElem?_eq_getElem (by omega)⟩
  have g5 : DataW.trod enc Try.prog w base spare held n 2 ((cs.drop 51).take (Try.prog.cellsOf 2)) = some x5 := by rw [← hx5]; exact hf 5 _ rfl
  rw [ck2] at g5
  obtain ⟨x6, hx6⟩ : ∃ y, xs[6]? = some y := ⟨_, List.getElem?_eq_getElem (by omega)⟩
  have g6 : DataW.trod enc Try.prog w base spare held n 31 ((cs.drop 52).take (Try.prog.cellsOf 31)) = some x6 := by rw [← hx6]; exact hf 6 _ rfl
  rw [ck27] at g6
  obtain ⟨x7, hx7⟩ : ∃ y, xs[7]? = some y := ⟨_, List.getElem?_eq_getElem (by omega)⟩
  have g7 : DataW.trod enc Try.prog w base spare held n 31 ((cs.drop 54).take (Try.prog.cellsOf 31)) = some x7 := by rw [← hx7]; exact hf 7 _ rfl
  rw [ck27] at g7
  obtain ⟨x8, hx8⟩ : ∃ y, xs[8]? = some y := ⟨_, List.getElem?_eq_getElem (by omega)⟩
  have g8 : DataW.trod enc Try.prog w base spare held n 32 ((cs.drop 56).take (Try.prog.cellsOf 32)) = some x8 := by rw [← hx8]; exact hf 8 _ rfl
  rw [ck28] at g8
  obtain ⟨x9, hx9⟩ : ∃ y, xs[9]? = some y := ⟨_, List.getElem?_eq_getElem (by omega)⟩
  have g9 : DataW.trod enc Try.prog w base spare held n 33 ((cs.drop 57).take (Try.prog.cellsOf 33)) = some x9 := by rw [← hx9]; exact hf 9 _ rfl
  rw [ck29] at g9
  obtain ⟨x10, hx10⟩ : ∃ y, xs[10]? = some y := ⟨_, List.getElem?_eq_getElem (by omega)⟩
  have g10 : DataW.trod enc Try.prog w base spare held n 38 ((cs.drop 58).take (Try.prog.cellsOf 38)) = some x10 := by rw [← hx10]; exact hf 10 _ rfl
  rw [ck34] at g10
  obtain ⟨x11, hx11⟩ : ∃ y, xs[11]? = some y := ⟨_, List.getElem?_eq_getElem (by omega)⟩
  have g11 : DataW.trod enc Try.prog w base spare held n 3 ((cs.drop 92).take (Try.prog.cellsOf 3)) = some x11 := by rw [← hx11]; exact hf 11 _ rfl
  rw [ck3] at g11
  obtain ⟨x12, hx12⟩ : ∃ y, xs[12]? = some y := ⟨_, List.getElem?_eq_getElem (by omega)⟩
  have g12 : DataW.trod enc Try.prog w base spare held n 3 ((cs.drop 93).take (Try.prog.cellsOf 3)) = some x12 := by rw [← hx12]; exact hf 12 _ rfl
  rw [ck3] at g12
  obtain ⟨x13, hx13⟩ : ∃ y, xs[13]? = some y := ⟨_, List.getElem?_eq_getElem (by omega)⟩
  have g13 : DataW.trod enc Try.prog w base spare held n 36 ((cs.drop 94).take (Try.prog.cellsOf 36)) = some x13 := by rw [← hx13]; exact hf 13 _ rfl
  rw [ck32] at g13
  obtain ⟨zkind, qkind, bkind⟩ := int_seg Try.underlying3 g0
  obtain ⟨xs1_, n1_, _, _, _, hxl1_, hf1_⟩ := DataW.trod_struct Try.underlying29 g1
  have hxl1_ : xs1_.length = 2 := hxl1_
  obtain ⟨x1_0, hx1_0⟩ : ∃ y, xs1_[0]? = some y := ⟨_, List.getElem?_eq_getElem (by omega)⟩
  have g1_0 : DataW.trod enc Try.prog w base spare held n1_ 27 ((((cs.drop 1).take 17).drop 0).take (Try.prog.cellsOf 27)) = some x1_0 := by rw [← hx1_0]; exact hf1_ 0 _ rfl
  rw [cells23, subSeg _ _ _ _ _ (by decide)] at g1_0
  obtain ⟨x1_1, hx1_1⟩ : ∃ y, xs1_[1]? = some y := ⟨_, List.getElem?_eq_getElem (by omega)⟩
  have g1_1 : DataW.trod enc Try.prog w base spare held n1_ 2 ((((cs.drop 1).take 17).drop 16).take (Try.prog.cellsOf 2)) = some x1_1 := by rw [← hx1_1]; exact hf1_ 1 _ rfl
  rw [ck2, subSeg _ _ _ _ _ (by decide)] at g1_1
  obtain ⟨zpw, qpw, bpw⟩ := id_seg g1_0
  obtain ⟨zpn, qpn, bpn⟩ := int_seg Try.underlying2 g1_1
  obtain ⟨ztoA, qtoA, _⟩ := DataW.trod_bool Try.underlying4 g2
  obtain ⟨za, qa, ba⟩ := id_seg g3
  obtain ⟨zb, qb, bb⟩ := id_seg g4
  obtain ⟨zn, qn, bn⟩ := int_seg Try.underlying2 g5
  obtain ⟨xs6_, n6_, _, _, _, hxl6_, hf6_⟩ := DataW.trod_struct Try.underlying31 g6
  have hxl6_ : xs6_.length = 2 := hxl6_
  obtain ⟨x6_0, hx6_0⟩ : ∃ y, xs6_[0]? = some y := ⟨_, List.getElem?_eq_getElem (by omega)⟩
  have g6_0 : DataW.trod enc Try.prog w base spare held n6_ 2 ((((cs.drop 52).take 2).drop 0).take (Try.prog.cellsOf 2)) = some x6_0 := by rw [← hx6_0]; exact hf6_ 0 _ rfl
  rw [ck2, subSeg _ _ _ _ _ (by decide)] at g6_0
  obtain ⟨x6_1, hx6_1⟩ : ∃ y, xs6_[1]? = some y := ⟨_, List.getElem?_eq_getElem (by omega)⟩
  have g6_1 : DataW.trod enc Try.prog w base spare held n6_ 2 ((((cs.drop 52).take 2).drop 1).take (Try.prog.cellsOf 2)) = some x6_1 := by rw [← hx6_1]; exact hf6_ 1 _ rfl
  rw [ck2, subSeg _ _ _ _ _ (by decide)] at g6_1
  obtain ⟨zfi, qfi, bfi⟩ := int_seg Try.underlying2 g6_0
  obtain ⟨zfn, qfn, bfn⟩ := int_seg Try.underlying2 g6_1
  obtain ⟨xs7_, n7_, _, _, _, hxl7_, hf7_⟩ := DataW.trod_struct Try.underlying31 g7
  have hxl7_ : xs7_.length = 2 := hxl7_
  obtain ⟨x7_0, hx7_0⟩ : ∃ y, xs7_[0]? = some y := ⟨_, List.getElem?_eq_getElem (by omega)⟩
  have g7_0 : DataW.trod enc Try.prog w base spare held n7_ 2 ((((cs.drop 54).take 2).drop 0).take (Try.prog.cellsOf 2)) = some x7_0 := by rw [← hx7_0]; exact hf7_ 0 _ rfl
  rw [ck2, subSeg _ _ _ _ _ (by decide)] at g7_0
  obtain ⟨x7_1, hx7_1⟩ : ∃ y, xs7_[1]? = some y := ⟨_, List.getElem?_eq_getElem (by omega)⟩
  have g7_1 : DataW.trod enc Try.prog w base spare held n7_ 2 ((((cs.drop 54).take 2).drop 1).take (Try.prog.cellsOf 2)) = some x7_1 := by rw [← hx7_1]; exact hf7_ 1 _ rfl
  rw [ck2, subSeg _ _ _ _ _ (by decide)] at g7_1
  obtain ⟨zti, qti, bti⟩ := int_seg Try.underlying2 g7_0
  obtain ⟨ztn, qtn, btn⟩ := int_seg Try.underlying2 g7_1
  obtain ⟨str, ltr, qtr, xtr, wtr⟩ := tr_seg8 g8
  obtain ⟨sids, lids, qids, xids, oids, wids⟩ := ids_seg8 g9
  obtain ⟨xs10_, n10_, _, hx10s, _, hxl10_, hf10_⟩ := DataW.trod_struct Try.underlying38 g10
  have hxl10_ : xs10_.length = 3 := hxl10_
  obtain ⟨x10_0, hx10_0⟩ : ∃ y, xs10_[0]? = some y := ⟨_, List.getElem?_eq_getElem (by omega)⟩
  have g10_0 : DataW.trod enc Try.prog w base spare held n10_ 27 ((((cs.drop 58).take 34).drop 0).take (Try.prog.cellsOf 27)) = some x10_0 := by rw [← hx10_0]; exact hf10_ 0 _ rfl
  rw [cells23, subSeg _ _ _ _ _ (by decide)] at g10_0
  obtain ⟨x10_1, hx10_1⟩ : ∃ y, xs10_[1]? = some y := ⟨_, List.getElem?_eq_getElem (by omega)⟩
  have g10_1 : DataW.trod enc Try.prog w base spare held n10_ 35 ((((cs.drop 58).take 34).drop 16).take (Try.prog.cellsOf 35)) = some x10_1 := by rw [← hx10_1]; exact hf10_ 1 _ rfl
  rw [ck31, subSeg _ _ _ _ _ (by decide)] at g10_1
  obtain ⟨x10_2, hx10_2⟩ : ∃ y, xs10_[2]? = some y := ⟨_, List.getElem?_eq_getElem (by omega)⟩
  have g10_2 : DataW.trod enc Try.prog w base spare held n10_ 36 ((((cs.drop 58).take 34).drop 33).take (Try.prog.cellsOf 36)) = some x10_2 := by rw [← hx10_2]; exact hf10_ 2 _ rfl
  rw [ck32, subSeg _ _ _ _ _ (by decide)] at g10_2
  obtain ⟨zkey, qkey, bkey⟩ := id_seg g10_0
  obtain ⟨xs10_1_, n10_1_, _, _, _, hxl10_1_, hf10_1_⟩ := DataW.trod_struct Try.underlying35 g10_1
  have hxl10_1_ : xs10_1_.length = 2 := hxl10_1_
  obtain ⟨x10_1_0, hx10_1_0⟩ : ∃ y, xs10_1_[0]? = some y := ⟨_, List.getElem?_eq_getElem (by omega)⟩
  have g10_1_0 : DataW.trod enc Try.prog w base spare held n10_1_ 2 ((((cs.drop (58 + 16)).take 17).drop 0).take (Try.prog.cellsOf 2)) = some x10_1_0 := by rw [← hx10_1_0]; exact hf10_1_ 0 _ rfl
  rw [ck2, subSeg _ _ _ _ _ (by decide)] at g10_1_0
  obtain ⟨x10_1_1, hx10_1_1⟩ : ∃ y, xs10_1_[1]? = some y := ⟨_, List.getElem?_eq_getElem (by omega)⟩
  have g10_1_1 : DataW.trod enc Try.prog w base spare held n10_1_ 27 ((((cs.drop (58 + 16)).take 17).drop 1).take (Try.prog.cellsOf 27)) = some x10_1_1 := by rw [← hx10_1_1]; exact hf10_1_ 1 _ rfl
  rw [cells23, subSeg _ _ _ _ _ (by decide)] at g10_1_1
  obtain ⟨zvn, qvn, bvn⟩ := int_seg Try.underlying2 g10_1_0
  obtain ⟨zvw, qvw, bvw⟩ := id_seg g10_1_1
  obtain ⟨sval, lval, qval, xval, oval, wval⟩ := row_seg8 g10_2
  obtain ⟨zop, qop, bop⟩ := int_seg Try.underlying3 g11
  obtain ⟨zttl, qttl, bttl⟩ := int_seg Try.underlying3 g12
  obtain ⟨stx, ltx, qtx, xtx, otx, wtx⟩ := row_seg8 g13
  refine ⟨⟨zkind, zpw, zpn, ztoA, za, zb, zn, zfi, zfn, zti, ztn, str, sids, zkey, zvn, zvw, sval, zop, zttl, stx⟩, ⟨ltr, lids, lval, ltx⟩, ?_, ⟨xtr, xids, xval, xtx, oids, oval, otx⟩, ⟨bpw, ba, bb, bkey, bvw, bpn, bn, bfi, bfn, bti, btn, bvn, bop, bttl⟩, fun m hm => ⟨wtr m fun y hy => hm y ?_, wids m fun y hy => hm y ?_, wval m fun y hy => hm y ?_, wtx m fun y hy => hm y ?_⟩⟩
  · have e0 : cs = cs.drop 0 := rfl
    have s_kind : cs.drop 0 = [.int .i64 zkind] ++ cs.drop 1 := nextSeg qkind rfl
    have s_pw : cs.drop 1 = bL (idL zpw) ++ cs.drop 17 := nextSeg qpw rfl
    have s_pn : cs.drop 17 = [.int .i64 zpn] ++ cs.drop 18 := nextSeg qpn rfl
    have s_toA : cs.drop 18 = [.bool ztoA] ++ cs.drop 19 := nextSeg qtoA rfl
    have s_a : cs.drop 19 = bL (idL za) ++ cs.drop 35 := nextSeg qa rfl
    have s_b : cs.drop 35 = bL (idL zb) ++ cs.drop 51 := nextSeg qb rfl
    have s_n : cs.drop 51 = [.int .i64 zn] ++ cs.drop 52 := nextSeg qn rfl
    have s_fi : cs.drop 52 = [.int .i64 zfi] ++ cs.drop 53 := nextSeg qfi rfl
    have s_fn : cs.drop 53 = [.int .i64 zfn] ++ cs.drop 54 := nextSeg qfn rfl
    have s_ti : cs.drop 54 = [.int .i64 zti] ++ cs.drop 55 := nextSeg qti rfl
    have s_tn : cs.drop 55 = [.int .i64 ztn] ++ cs.drop 56 := nextSeg qtn rfl
    have s_tr : cs.drop 56 = [.slice str.ao str.n str.cap] ++ cs.drop 57 := nextSeg qtr rfl
    have s_ids : cs.drop 57 = [.slice sids.ao sids.n sids.cap] ++ cs.drop 58 := nextSeg qids rfl
    have s_key : cs.drop 58 = bL (idL zkey) ++ cs.drop 74 := nextSeg qkey rfl
    have s_vn : cs.drop 74 = [.int .i64 zvn] ++ cs.drop 75 := nextSeg qvn rfl
    have s_vw : cs.drop 75 = bL (idL zvw) ++ cs.drop 91 := nextSeg qvw rfl
    have s_val : cs.drop 91 = [.slice sval.ao sval.n sval.cap] ++ cs.drop 92 := nextSeg qval rfl
    have s_op : cs.drop 92 = [.int .i64 zop] ++ cs.drop 93 := nextSeg qop rfl
    have s_ttl : cs.drop 93 = [.int .i64 zttl] ++ cs.drop 94 := nextSeg qttl rfl
    have s_tx : cs.drop 94 = [.slice stx.ao stx.n stx.cap] ++ cs.drop 95 := nextSeg qtx rfl
    have s_end : cs.drop 95 = [] := List.drop_of_length_le (by omega)
    rw [e0, s_kind, s_pw, s_pn, s_toA, s_a, s_b, s_n, s_fi, s_fn, s_ti, s_tn, s_tr, s_ids, s_key, s_vn, s_vw, s_val, s_op, s_ttl, s_tx, s_end]
    rfl
  · rw [hx]
    show _ ∈ DataW.weights Try.prog 40 (.agg (xs.map (·.1)))
    rw [DataW.weights, Try.underlying40]
    exact DataW.weights_mem_each (j := 8) (t := 32) (d := x8.1) rfl (by rw [List.getElem?_map, hx8]; rfl) _ hy
  · rw [hx]
    show _ ∈ DataW.weights Try.prog 40 (.agg (xs.map (·.1)))
    rw [DataW.weights, Try.underlying40]
    exact DataW.weights_mem_each (j := 9) (t := 33) (d := x9.1) rfl (by rw [List.getElem?_map, hx9]; rfl) _ hy
  · rw [hx]
    show _ ∈ DataW.weights Try.prog 40 (.agg (xs.map (·.1)))
    rw [DataW.weights, Try.underlying40]
    refine DataW.weights_mem_each (j := 10) (t := 38) (d := x10.1) rfl (by rw [List.getElem?_map, hx10]; rfl) _ ?_
    rw [hx10s]
    show _ ∈ DataW.weights Try.prog 38 (.agg (xs10_.map (·.1)))
    rw [DataW.weights, Try.underlying38]
    exact DataW.weights_mem_each (j := 2) (t := 36) (d := x10_2.1) rfl (by rw [List.getElem?_map, hx10_2]; rfl) _ hy
  · rw [hx]
    show _ ∈ DataW.weights Try.prog 40 (.agg (xs.map (·.1)))
    rw [DataW.weights, Try.underlying40]
    exact DataW.weights_mem_each (j := 13) (t := 36) (d := x13.1) rfl (by rw [List.getElem?_map, hx13]; rfl) _ hy
set_option maxRecDepth 100000 in
theorem open_frame8 {r : Reach} {b0 : Nat} {v : Value} {d : DataW H} {ps : List MemPlace} (hval : Value.okWide Try.prog w r b0 40 v) (hd : DataW.Trod enc Try.prog w base spare held 40 v d ps) :
    ∃ (f : Fr) (dd : FD), v = .agg (frA f) ∧ FrW w f dd ∧ FrR f ∧ ∀ m, (∀ y ∈ d.weights Try.prog 40, y ≤ m) → dd.tr.length * 8 ≤ m ∧ dd.ids.length * 16 ≤ m ∧ dd.val.length ≤ m ∧ dd.tx.length ≤ m := by
  obtain ⟨cs, rfl, _⟩ := okWide_struct Try.underlying40 hval
  obtain ⟨fuel, hf⟩ := hd
  obtain ⟨f, dd, e, HW, HR, hm⟩ := fr_of_trod8 hf
  refine ⟨f, dd, ?_, HW, HR, hm⟩
  have e2 : cs.toList = (frA f).toList := e
  rw [Array.toList_inj.1 e2]
end
end Go.Proofs.Ythmcnlmphikicab
