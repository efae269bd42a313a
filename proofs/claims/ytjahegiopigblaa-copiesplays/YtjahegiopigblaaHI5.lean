/- Calls that make blocks and draw, and do nothing else: what the order of a sort does. -/
import Derived.Test.YtjahegiopigblaaHI4
import Derived.Test.YtjahegiopigblaaHW2
import Derived.Shelf.SlSortCmp.NoneTotal
namespace Go.Proofs.Ytjahegiopigblaa.DI
open Go.RowKit
/-- As the elder one; no fewer draws. -/
structure Gro (w w' : World) : Prop where
  below : Below w.heap.size w w'
  dr : w.drawn ≤ w'.drawn
theorem Gro.refl (w : World) : Gro w w := ⟨Below.refl _ _, Nat.le_refl _⟩
theorem Gro.size {a b : World} (h : Gro a b) : a.heap.size ≤ b.heap.size := h.below.size
theorem Gro.trans {a b c : World} (h : Gro a b) (k : Gro b c) : Gro a c := ⟨Below.trans h.below (Below.mono k.below h.size), Nat.le_trans h.dr k.dr⟩
theorem Gro.drew {a b : World} (h : Gro a b) : Gro a b.drew := ⟨Below.drew h.below, Nat.le_trans h.dr (Nat.le_succ _)⟩
theorem Gro.alloc {a b : World} (h : Gro a b) (o : Obj) : Gro a (b.alloc o) := ⟨Below.alloc h.below h.size o, h.dr⟩
theorem Gro.has {w w' : World} (h : Gro w w') {g : Nat} {o : Obj} (hg : w.heap[g]? = some o) : w'.heap[g]? = some o := by
  rw [h.below.block g (lt_of_heap hg)]; exact hg
theorem gro_alloc (w : World) (x : Obj) : Gro w (w.alloc x) := (Gro.refl w).alloc x
theorem size_base {w cur : World} {g : Nat} (h : Gro w cur) (e : cur.heap.size = g) : w.heap.size ≤ g := e ▸ h.size
/-- It is a world with more draws and more blocks. -/
theorem Gro.grown {w w' : World} (h : Gro w w') : ∃ q os', w' = Go.Sort.grow (w.drewN q) os' := by
  refine ⟨w'.drawn - w.drawn, w'.heap.extract w.heap.size w'.heap.size, ?_⟩
  have hd := h.dr
  have hh : w'.heap = w.heap ++ w'.heap.extract w.heap.size w'.heap.size := by
    apply Array.ext_getElem?
    intro k
    rw [Array.getElem?_append]
    by_cases hk : k < w.heap.size
    · rw [if_pos hk, h.below.block k hk]
    · rw [if_neg hk, Array.getElem?_extract]
      have := h.size
      by_cases hk2 : k < w'.heap.size
      · rw [if_pos (by omega)]
        congr 1
        omega
      · rw [if_neg (by omega), Array.getElem?_eq_none (by omega)]
  have h1 := h.below.os
  have h2 := h.below.tape
  have h3 := h.below.output
  cases w with
  | mk heap tape drawn os output =>
    cases w' with
    | mk heap' tape' drawn' os' output' =>
      simp only at *
      subst h1 h2 h3
      unfold Go.Sort.grow World.drewN
      simp only
      rw [← hh]
      congr 1
      omega
structure Stored (w w' : World) (g : Nat) (o : Obj) : Prop extends Go.Proofs.Ytjahegiopigblaa.Stored w w' g o where
  dr : w'.drawn = w.drawn
theorem Gro.store {w cur cur' : World} {g : Nat} {x : Obj} (h : Gro w cur) (s : Stored cur cur' g x) (b : w.heap.size ≤ g) : Gro w cur' := ⟨Below.trans h.below (s.toStored.below b), by rw [s.dr]; exact h.dr⟩
theorem stored_setRow {w : World} {g : Nat} {old : Array Value} {t : TypeId} {fr : Nat × Nat} (cs : Array Value) (hg : w.heap[g]? = some (.cells old t fr)) : Stored w (w.setRow g cs) g (.cells cs t fr) := ⟨Go.Proofs.Ytjahegiopigblaa.stored_setRow cs hg, rfl⟩
section
variable {P : Program} {ops : Array Oper} {rest : List Oper} {o : Oper} {a : Act} {w : World} {Q : Exit → Act → World → Prop}
theorem wpList_box (hgd : o.guard = none) (ty : TypeId) (x : Operand) (ho : o.op = .box ty x) (v : Value) (hx : a.eval x = v)
    (h : ∀ w' g, Gro w w' → w.heap.size = g → w'.heap[g]? = some (.cells v.cells ty (0, 0)) → wpList P ops Q rest (a.put o.dst (.pointer (some ⟨g, 0, none⟩))) w') : wpList P ops Q (o :: rest) a w :=
  wpList_plain hgd fun _ hK => by
    have := hK _ _ (h (w.alloc (.cells v.cells ty)) _ (gro_alloc _ _) rfl (heap_alloc_new _ _))
    have he : (execOp a.eval o).run P w = .ok (.value (.pointer (some ⟨w.heap.size, 0, none⟩))) (w.alloc (.cells v.cells ty)) := by
      unfold execOp
      simp only [ho, hx, Instr.box, newVar, newRow]
      generalize v.cells = cs
      simp [go_sem]
    unfold Oper.wp
    rw [he]
    exact this
theorem wpList_alloc (hgd : o.guard = none) (ty : TypeId) (ho : o.op = .alloc ty) (v : Value) (hz : ∀ w, (zeroValue ty).run P w = .ok v w)
    (h : ∀ w' g, Gro w w' → w.heap.size = g → w'.heap[g]? = some (.cells v.cells ty (0, 0)) → wpList P ops Q rest (a.put o.dst (.pointer (some ⟨g, 0, none⟩))) w') : wpList P ops Q (o :: rest) a w :=
  wpList_plain hgd fun _ hK => by
    have := hK _ _ (h (w.alloc (.cells v.cells ty)) _ (gro_alloc _ _) rfl (heap_alloc_new _ _))
    unfold Oper.wp
    rw [run_alloc_op ty ho v hz]
    exact this
theorem wpList_store_at (hgd : o.guard = none) (hdst : o.dst = none) (ty : TypeId) (x y : Operand) (ho : o.op = .store ty x y)
    (g off : Nat) (hx : a.eval x = .pointer (some ⟨g, off, none⟩)) (v : Value) (hy : a.eval y = v) (t : TypeId) (old : Array Value) (hg : w.heap[g]? = some (.cells old t (0, 0)))
    (hi : (P.info? ty).map (·.size) = some v.cells.size) (hle : off + v.cells.size ≤ old.size) (h1 : v.cells.all (·.oneCell') = true) (new : Array Value) (hn : splice old off v.cells = new)
    (h : ∀ w', Stored w w' g (.cells new t (0, 0)) → wpList P ops Q rest a w') : wpList P ops Q (o :: rest) a w :=
  wpList_plain hgd fun _ hK => by
    have := hK _ _ (h _ (stored_setRow _ hg))
    subst hn
    unfold Oper.wp execOp
    simp only [ho, hx, hy, Instr.storeAt, Instr.sureAddr, Sem.run_bind, Sem.run_pure, Result.andThen_ok, run_storeVar_at w g off t ty old v hg hi hle h1]
    rw [Oper.upon_skip, hdst]
    exact this
theorem wpList_box_agg (hgd : o.guard = none) (ty : TypeId) (x : Operand) (ho : o.op = .box ty x) (cs : Array Value) (hx : a.eval x = .agg cs)
    (h : ∀ w' g, Gro w w' → w.heap.size = g → w'.heap[g]? = some (.cells cs ty (0, 0)) → wpList P ops Q rest (a.put o.dst (.pointer (some ⟨g, 0, none⟩))) w') : wpList P ops Q (o :: rest) a w :=
  wpList_box hgd ty x ho _ hx h
theorem wpList_alloc_agg (hgd : o.guard = none) (ty : TypeId) (ho : o.op = .alloc ty) (cs : Array Value) (hz : ∀ w, (zeroValue ty).run P w = .ok (.agg cs) w)
    (h : ∀ w' g, Gro w w' → w.heap.size = g → w'.heap[g]? = some (.cells cs ty (0, 0)) → wpList P ops Q rest (a.put o.dst (.pointer (some ⟨g, 0, none⟩))) w') : wpList P ops Q (o :: rest) a w :=
  wpList_alloc hgd ty ho _ hz h
theorem wpList_box_d (dst : Nat) (hd : o.dst = some dst) (hgd : o.guard = none) (ty : TypeId) (x : Operand) (ho : o.op = .box ty x) (cs : Array Value) (hx : a.eval x = .agg cs)
    (h : ∀ w' g, Gro w w' → w.heap.size = g → w'.heap[g]? = some (.cells cs ty (0, 0)) → wpList P ops Q rest (a.put (some dst) (.pointer (some ⟨g, 0, none⟩))) w') : wpList P ops Q (o :: rest) a w :=
  wpList_box_agg hgd ty x ho cs hx (by rw [hd]; exact h)
theorem wpList_store_agg (hgd : o.guard = none) (hdst : o.dst = none) (ty : TypeId) (x y : Operand) (ho : o.op = .store ty x y)
    (g : Nat) (hx : a.eval x = .pointer (some ⟨g, 0, none⟩)) (cs : Array Value) (hy : a.eval y = .agg cs) (t : TypeId) (old : Array Value) (hg : w.heap[g]? = some (.cells old t (0, 0)))
    (hi : (P.info? ty).map (·.size) = some cs.size) (hle : old.size = cs.size) (h1 : cs.all (·.oneCell') = true)
    (h : ∀ w', Stored w w' g (.cells cs t (0, 0)) → wpList P ops Q rest a w') : wpList P ops Q (o :: rest) a w :=
  wpList_store_at hgd hdst ty x y ho g 0 hx (.agg cs) hy t old hg hi (by show 0 + cs.size ≤ _; omega) h1 cs (splice_whole old cs hle) h
theorem wpList_store_cell (hgd : o.guard = none) (hdst : o.dst = none) (ty : TypeId) (x y : Operand) (ho : o.op = .store ty x y)
    (g off : Nat) (hx : a.eval x = .pointer (some ⟨g, off, none⟩)) (k : IntKind) (n : Int) (hy : a.eval y = .int k n) (t : TypeId) (old : Array Value) (hg : w.heap[g]? = some (.cells old t (0, 0)))
    (hi : (P.info? ty).map (·.size) = some 1) (hle : off < old.size) (new : Array Value) (hn : old.setIfInBounds off (.int k n) = new)
    (h : ∀ w', Stored w w' g (.cells new t (0, 0)) → wpList P ops Q rest a w') : wpList P ops Q (o :: rest) a w :=
  wpList_store_at hgd hdst ty x y ho g off hx (.int k n) hy t old hg hi (by show off + 1 ≤ _; omega) (by simp [Value.cells, Value.oneCell']) new (by rw [← hn]; exact splice_one old off _ hle) h
end
set_option maxHeartbeats 400000 in
theorem cmp_any (a b : Nat) (ha : a < top) (hb : b < top) (w : World) :
    Calls Try.prog 38 #[idV a, idV b] w fun e w' => e = .returned (.int .i64 (cmpN a b)) ∧ Gro w w' := by
  have HA : Hid (a < 256 ^ 16) := by rw [top_eq] at ha; exact ha
  have HB : Hid (b < 256 ^ 16) := by rw [top_eq] at hb; exact hb
  clear ha hb
  have GG : Gro w w := Gro.refl w
  unfold idV
  go_enter Try.func38, Try.ntmps38
  go_wp2_with (first | (refine wpList_box_d 2 rfl rfl 23 _ rfl _ rfl ?_; intro w1 g1 G1 e1 k1; have b1 := size_base GG e1; replace GG := GG.trans G1; clear G1 e1) | (refine wpList_box_d 3 rfl rfl 23 _ rfl _ rfl ?_; intro w2 g2 G2 e2 k2; have b2 := size_base GG e2; have d12 := lt_new k1 e2; replace k1 := G2.has k1; replace GG := GG.trans G2; clear G2 e2) | (refine wpList_load_row rfl 23 _ rfl _ rfl 23 _ (0, 0) _ (by first | exact k1 | exact k2) Try.underlying23 rfl (size23' _) ?_))
  go_loop [8] (fun i => ∃ k : Nat, k ≤ 16 ∧ i = .int .i64 k ∧ Hid (a / 256 ^ (16 - k) = b / 256 ^ (16 - k))) (fun i => 16 - (intOf i).toNat)
  case atStart => exact ⟨0, by omega, rfl, by show _ = _; rw [Nat.div_eq_of_lt HA.out, Nat.div_eq_of_lt HB.out]⟩
  case round =>
    obtain ⟨k, hk, rfl, HE⟩ := hrel
    cases hlt : decide ((k : Int) < 16)
    · have e16 : k = 16 := by simp at hlt; omega
      subst e16
      go_wp2
      go_ret
      exact ⟨ret_int (cmpN_eq (by simpa using HE.out)), GG⟩
    · have hk16 : k < 16 := by simp at hlt; omega
      have hi := run_index_id a k hk16
      have c2 : w2.cell? ⟨g2, k, none⟩ = some (.int .u8 (byt b k)) := by rw [cell_of_row w2 g2 k _ 23 _ k2]; exact idA_get b k hk16
      have HL : Hid (byt a k < byt b k → a < b) := lt_of_bytes hk16 HE.out
      have HG : Hid (byt b k < byt a k → b < a) := lt_of_bytes hk16 HE.out.symm
      have HQ : Hid (byt a k = byt b k → a / 256 ^ (16 - (k + 1)) = b / 256 ^ (16 - (k + 1))) := eq_step hk16 HE.out
      cases h1 : decide (byt a k < byt b k)
      all_goals cases h2 : decide (byt b k < byt a k)
      all_goals
        simp only [decide_eq_true_eq, decide_eq_false_iff_not] at h1 h2
      · go_wp2
        go_light
        go_round
        case rel => exact ⟨k + 1, by omega, by go_num, HQ.out (by omega)⟩
        case measure => simp [intOf]; omega
      · go_wp2
        go_ret
        exact ⟨ret_int (cmpN_gt (HG.out h2)), GG⟩
      · go_wp2
        go_ret
        exact ⟨ret_int (cmpN_lt (HL.out h1)), GG⟩
      · omega
set_option maxHeartbeats 400000 in
theorem sub_any (a b : Nat) (ha : a < top) (hb : b < top) (w : World) :
    Calls Try.prog 48 #[idV a, idV b] w fun e w' => e = .returned (idV (subN a b)) ∧ Gro w w' := by
  have HA : Hid (a < top) := ha
  have HB : Hid (b < top) := hb
  clear ha hb
  unfold idV
  go_enter Try.func48, Try.ntmps48
  go_wp2_with (first | (refine wpList_box_agg rfl 23 _ rfl _ rfl ?_; intro _ _ _ _ _) | (refine wpList_alloc_agg rfl 23 rfl _ zero23 ?_; intro _ _ _ _ _))
  rename_i w1 g1 G1 e1 h1 w2 g2 G2 e2 h2 w3 g3 G3 e3 h3 w4 g4 G4 e4 h4 K hK
  have n1 := lt_of_heap h1
  have n2 := lt_of_heap h2
  have n3 := lt_of_heap h3
  have s1 := G1.size
  have s2 := G2.size
  have s3 := G3.size
  have s4 := G4.size
  have k1 : w4.heap[g1]? = some (.cells (idA a) 23 (0, 0)) := G4.has (G3.has (G2.has h1))
  have k2 : w4.heap[g2]? = some (.cells (idA b) 23 (0, 0)) := G4.has (G3.has h2)
  have k3 : w4.heap[g3]? = some (.cells (idA 0) 23 (0, 0)) := G4.has h3
  have GG : Gro w w4 := ((G1.trans G2).trans G3).trans G4
  have l1 : g1 < g4 := by omega
  have l2 : g2 < g4 := by omega
  have l3 : g3 < g4 := by omega
  have l0 : w.heap.size ≤ g3 := by omega
  have l00 : w.heap.size ≤ g4 := by omega
  clear h1 h2 h3 G1 G2 G3 G4 s1 s2 s3 s4 n1 n2 n3 e1 e2 e3 e4
  go_loopw [6, 7] (fun br i wr => ∃ k : Nat, ((k = 0 ∧ i = .int .i64 (-1)) ∨ (∃ j : Nat, j < 16 ∧ k = j + 1 ∧ i = .int .i64 j)) ∧ br = .int .i64 (borrow a b k) ∧ Below g4 w4 wr ∧ w4.drawn ≤ wr.drawn ∧ wr.heap[g4]? = some (.cells (idA (subN a b % 256 ^ (16 - k))) 23 (0, 0))) (fun _ i _ => (intOf i + 1).toNat)
  case atStart => exact ⟨16, Or.inr ⟨15, by omega, rfl, rfl⟩, by rw [borrow_16], Below.refl _ _, Nat.le_refl _, by rw [h4]; simp [Nat.mod_one]⟩
  case round =>
    rename_i wr
    obtain ⟨k, hk, rfl, hb, hdr, hw⟩ := hrel
    have q1 := (hb.block g1 l1).trans k1
    have q2 := (hb.block g2 l2).trans k2
    have q3 := (hb.block g3 l3).trans k3
    clear h4 k1 k2 k3
    rcases hk with ⟨rfl, rfl⟩ | ⟨j, hj, rfl, rfl⟩
    · have et : subN a b % 256 ^ (16 - 0) = subN a b := Nat.mod_eq_of_lt (by have := subN_lt a b; rw [top_eq] at this; exact this)
      rw [et] at hw
      clear et
      go_wp2_with (first | (refine wpList_load_row rfl 23 _ rfl _ rfl 23 _ (0, 0) _ hw Try.underlying23 rfl (size23' _) ?_) | (refine wpList_store_agg rfl rfl 23 _ _ rfl _ rfl _ rfl 23 _ q3 (size23' _) (by rw [idA_size, idA_size]) (idA_one _) ?_; intro _ _))
      rename_i w5 hst
      exact bodyPost_ret (v := .agg (idA (subN a b))) (results_cell_row Try.results48 _ _ g3 23 _ (0, 0) _ rfl hst.new Try.underlying23 rfl (size23' _)) rfl ⟨rfl, (Below.trans GG.below (hb.mono l00)).trans (hst.toStored.below l0), by rw [hst.dr]; exact Nat.le_trans GG.dr hdr⟩
    · have hbo := borrow_bd a b (j + 1)
      have hba := byt_lt a j
      have hbb := byt_lt b j
      have hga := idA_get a j hj
      have hgb := idA_get b j hj
      have c1 : wr.cell? ⟨g1, j, none⟩ = some (.int .u8 (byt a j)) := by rw [cell_of_row wr g1 j _ 23 _ q1]; exact hga
      have c2 : wr.cell? ⟨g2, j, none⟩ = some (.int .u8 (byt b j)) := by rw [cell_of_row wr g2 j _ 23 _ q2]; exact hgb
      have hby := sub_byte a b j HA.out HB.out hj
      have hst := borrow_step a b j hj
      have HY : Hid ((idA (subN a b % 256 ^ (16 - (j + 1)))).setIfInBounds j (.int .u8 (((byt a j : Int) - byt b j - borrow a b (j + 1)) % 256)) = idA (subN a b % 256 ^ (16 - j))) := by
        show _ = _
        rw [← hby]
        have e : 16 - (j + 1) = 15 - j := by omega
        rw [e]
        exact set_low (subN a b) j hj
      have HZ : Hid (borrow a b j = if (byt a j : Int) - byt b j - borrow a b (j + 1) < 0 then 1 else 0) := hst
      clear hga hgb hby hst
      generalize subN a b % 256 ^ (16 - (j + 1)) = N at hw HY
      generalize hM : subN a b % 256 ^ (16 - j) = M at HY
      have HM : Hid (subN a b % 256 ^ (16 - j) = M) := hM
      clear hM
      have hsz : Hid (j < (idA N).size) := by show _ < _; rw [idA_size]; exact hj
      generalize hX : (byt a j : Int) = X at *
      generalize hY : (byt b j : Int) = Y at *
      generalize hBO : borrow a b (j + 1) = BO at *
      have hX2 : 0 ≤ X ∧ X < 256 := by omega
      have hY2 : 0 ≤ Y ∧ Y < 256 := by omega
      clear hX hY hBO hba hbb
      cases hneg : decide (X - Y - BO < 0)
      all_goals
        go_wp2
        go_quiet (fail)
        go_wp2_with (refine wpList_store_cell rfl rfl 5 _ _ rfl g4 j rfl _ _ rfl 23 _ hw size5 hsz.out _ rfl ?_; intro w5 hst)
        have hn5 : w5.heap[g4]? = some (.cells (idA M) 23 (0, 0)) := by rw [← HY.out]; exact hst.new
        rw [← HM.out] at hn5
        have hb5 : Below g4 w4 w5 := (hb.trans (drewN_below g4 wr nq)).trans (hst.toStored.below (Nat.le_refl _))
        have hd5 : w4.drawn ≤ w5.drawn := by rw [hst.dr]; exact Nat.le_trans hdr (Nat.le_add_right _ _)
        clear hst
        have hbj : borrow a b j = if X - Y - BO < 0 then 1 else 0 := HZ.out
        go_light
        go_roundw
        case rel =>
          refine ⟨j, ?_, by rw [hbj]; simp at hneg; simp [hneg], hb5, hd5, hn5⟩
          by_cases h0 : j = 0
          · subst h0; exact Or.inl ⟨rfl, rfl⟩
          · exact Or.inr ⟨j - 1, by omega, by omega, by go_num⟩
        case measure => simp [intOf]
theorem wp_region_gro {P : Program} {id : Nat} {Q : Exit → Act → World → Prop} {a : Act} {w : World} {l : List Oper} (hm : P.follows .mixedOrders = true) (hB : Region.lexB .any l.toArray = true)
    (h : wpQuiet P l.toArray (fun w' => Gro w w') (fun a' => ∀ w', Gro w w' → Q .normal a' w') l a) : (Code.region id l.toArray true).wp P Q a w :=
  wp_region_quiet (C := fun w' => Gro w w') hm hB (Gro.refl w).drew (by simpa using h)
theorem Calls.gro {P : Program} {f : FuncId} {args : Array Value} {w0 w : World} {v : Value} (hw : Gro w0 w) (h : Calls P f args w fun e w' => e = .returned v ∧ Gro w w') : Calls P f args w fun e w' => e = .returned v ∧ Gro w0 w' :=
  h.mono fun _ _ ⟨he, hg⟩ => ⟨he, hw.trans hg⟩
set_option maxHeartbeats 400000 in
/-- The order clockwise from a place. -/
theorem clo_any (s x y h : Nat) (hs : s < top) (hx : x < top) (hy : y < top) (w : World) (hh : w.heap[h]? = some (.cells (idA s) 23 (0, 0))) :
    Calls Try.prog 70 #[.agg (idA x), .agg (idA y), .pointer (some ⟨h, 0, none⟩)] w fun e w' => e = .returned (.int .i64 (cmpN (kc s x) (kc s y))) ∧ Gro w w' := by
  have s1 := subN_lt x s
  have s2 := subN_lt y s
  have GG : Gro w w := Gro.refl w
  unfold kc
  go_enter Try.func70, Try.ntmps70
  go_wp2_with (first | (refine wpList_box_d 3 rfl rfl 23 _ rfl _ rfl ?_; intro w1 g1 G1 e1 k1; replace hh := G1.has hh; replace GG := GG.trans G1; clear G1 e1) | (refine wpList_box_d 4 rfl rfl 23 _ rfl _ rfl ?_; intro w2 g2 G2 e2 k2; replace hh := G2.has hh; replace k1 := G2.has k1; replace GG := GG.trans G2; clear G2 e2))
  try simp only [Act.put, List.setIfInBounds_toArray, List.set_cons_zero, List.set_cons_succ]
  refine wp_region_gro follows (by kernel_rfl) ?_
  refine wq_load_id rfl _ rfl _ rfl _ (fun _ hw => Gro.has hw k1) ?_
  simp only [Act.put, List.setIfInBounds_toArray, List.set_cons_zero, List.set_cons_succ]
  refine wq_load_id rfl _ rfl _ rfl _ (fun _ hw => Gro.has hw hh) ?_
  simp only [Act.put, List.setIfInBounds_toArray, List.set_cons_zero, List.set_cons_succ]
  refine wq_call rfl _ 48 Try.call48 rfl rfl _ rfl _ rfl _ (fun _ hw => Calls.gro hw (sub_any x s hx hs _)) ?_
  simp only [Act.put, List.setIfInBounds_toArray, List.set_cons_zero, List.set_cons_succ]
  refine wq_load_id rfl _ rfl _ rfl _ (fun _ hw => Gro.has hw k2) ?_
  simp only [Act.put, List.setIfInBounds_toArray, List.set_cons_zero, List.set_cons_succ]
  refine wq_load_id rfl _ rfl _ rfl _ (fun _ hw => Gro.has hw hh) ?_
  simp only [Act.put, List.setIfInBounds_toArray, List.set_cons_zero, List.set_cons_succ]
  refine wq_call rfl _ 48 Try.call48 rfl rfl _ rfl _ rfl _ (fun _ hw => Calls.gro hw (sub_any y s hy hs _)) ?_
  simp only [Act.put, List.setIfInBounds_toArray, List.set_cons_zero, List.set_cons_succ]
  refine wq_call rfl _ 38 Try.call38 rfl rfl _ rfl _ rfl _ (fun _ hw => Calls.gro hw (cmp_any (subN x s) (subN y s) s1 s2 _)) ?_
  simp only [Act.put, List.setIfInBounds_toArray, List.set_cons_zero, List.set_cons_succ]
  go_big_quiet_want
  go_big_quiet_op
  go_big_quiet_on
  refine wpQuiet_nil ?_
  intro wq Gq0
  have Gq : Gro _ wq := Gq0
  clear Gq0
  replace GG := GG.trans Gq
  clear Gq
  go_wp2
  go_ret
  exact ⟨rfl, GG⟩
end Go.Proofs.Ytjahegiopigblaa.DI
