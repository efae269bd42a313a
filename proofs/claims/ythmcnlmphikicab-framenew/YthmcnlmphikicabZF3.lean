/- Rows of bytes as the frame lays them: numbers, trails, identities. -/
import Derived.Test.YthmcnlmphikicabZF2
import Derived.Test.YthmcnlmphikicabZX1
namespace Go.Proofs.Ythmcnlmphikicab
open Go.RowKit
/-! ### What an operation hands on -/
def RetE (k : PostE) (w : World) (e : Ending) (w' : World) : Prop := ∃ v, e = .returned v ∧ Gro w w' ∧ k.p v w'
def rowE (B : Nat) (l : List Nat) : PostE := .ex (fun v w => ∃ ao cap, v = .slice ao l.length cap ∧ OB w 5 .u8 B ao cap l) fun _ _ _ hg ⟨ao, cap, h1, h2⟩ => ⟨ao, cap, h1, h2.gro hg⟩
def intsE (l : List Int) : PostE := .ex (fun v w => ∃ g, v = .slice (some ⟨g, 0, none⟩) l.length l.length ∧ XC w 1 (some ⟨g, 0, none⟩) l.length l.length (l.map (Value.int .i64 ·))) fun _ _ _ hg ⟨g, h1, h2⟩ => ⟨g, h1, h2.gro hg⟩
def textsE (l : List (List Nat)) : PostE := .ex (fun v w => ∃ g, v = .slice (some ⟨g, 0, none⟩) l.length l.length ∧ LC w (some ⟨g, 0, none⟩) l.length l) fun _ _ _ hg ⟨g, h1, h2⟩ => ⟨g, h1, h2.gro hg⟩
def SlAll (w : World) : List Value → List (List Nat) → Prop
  | [], [] => True
  | v :: vs, l :: ls => (∃ ao cap, v = .slice ao l.length cap ∧ NC w .u8 ao cap l) ∧ SlAll w vs ls
  | _, _ => False
theorem SlAll.len {w : World} : ∀ {vs : List Value} {ls : List (List Nat)}, SlAll w vs ls → vs.length = ls.length
  | [], [], _ => rfl
  | _ :: vs, _ :: ls, h => by simp [h.2.len]
  | [], _ :: _, h => h.elim
  | _ :: _, [], h => h.elim
theorem SlAll.at {w : World} : ∀ {vs : List Value} {ls : List (List Nat)}, SlAll w vs ls → ∀ j, j < ls.length → ∃ ao cap, vs[j]? = some (.slice ao (ls.getD j []).length cap) ∧ NC w .u8 ao cap (ls.getD j [])
  | [], [], _, j, hj => by simp at hj
  | v :: vs, l :: ls, h, 0, _ => by obtain ⟨⟨ao, cap, rfl, h2⟩, _⟩ := h; exact ⟨ao, cap, rfl, h2⟩
  | v :: vs, l :: ls, h, j + 1, hj => by
    obtain ⟨ao, cap, h1, h2⟩ := h.2.at j (by simp at hj; omega)
    exact ⟨ao, cap, by simpa using h1, by simpa using h2⟩
  | [], _ :: _, h, _, _ => h.elim
  | _ :: _, [], h, _, _ => h.elim
theorem SlAll.gro {w w' : World} (G : Gro w w') : ∀ {vs : List Value} {ls : List (List Nat)}, SlAll w vs ls → SlAll w' vs ls
  | [], [], _ => trivial
  | _ :: _, _ :: _, h => by obtain ⟨⟨ao, cap, h1, h2⟩, h3⟩ := h; exact ⟨⟨ao, cap, h1, h2.gro G⟩, SlAll.gro G h3⟩
  | [], _ :: _, h => h.elim
  | _ :: _, [], h => h.elim
theorem LC.made {w : World} {g : Nat} {vs : List Value} {t : TypeId} {ls : List (List Nat)} (hg : w.heap[g]? = some (.cells vs.toArray t (0, 0))) (h : SlAll w vs ls) : LC w (some ⟨g, 0, none⟩) ls.length ls :=
  ⟨Nat.le_refl _, fun e => by (cases e), fun ad ha j hj => by
    cases ha
    obtain ⟨ao, cap, h1, h2⟩ := h.at j hj
    refine ⟨ao, cap, ?_, h2⟩
    rw [add_at, Nat.zero_add, cell_of_row w g j _ t (0, 0) hg]
    simpa using h1⟩
theorem xc_made {w : World} {g n : Nat} {cs : List Value} {t : TypeId} {sz : Nat} (hg : w.heap[g]? = some (.cells cs.toArray t (0, 0))) (hl : cs.length = n * sz) (h1 : ∀ v ∈ cs, v.oneCell' = true) : XC w sz (some ⟨g, 0, none⟩) n n cs :=
  ⟨hl, Nat.le_refl _, fun e => by (cases e), fun ad ha j v hv => by
    cases ha
    rw [add_at, Nat.zero_add, cell_of_row w g j _ t (0, 0) hg]
    simpa using hv, h1⟩
theorem run_bsl {P : Program} {o : Oper} {A : Act} {w : World} (t : TypeId) (n : Nat) (l : List (Nat × Operand)) (ho : o.op = .buildSlice t n l.toArray) (vals : List (Nat × Value)) (hv : (l.map fun p => (p.1, A.eval p.2)) = vals) {v : Value} {w' : World} (h : (Instr.buildSlice t n vals.toArray).run P w = .ok v w') :
    (execOp A.eval o).run P w = .ok (.value v) w' := by
  unfold execOp
  simp only [ho]
  have : (l.toArray.map fun (i, x) => (i, A.eval x)) = vals.toArray := by rw [← hv]; simp
  rw [this]
  simp [h]
theorem run_oneU {o : Oper} {A : Act} (x : Operand) (ho : o.op = .buildSlice 102 1 #[(0, x)]) (z : Int) (hx : A.eval x = .int .u64 z) (w : World) :
    (execOp A.eval o).run Try.prog w = .ok (.value (.slice (some ⟨w.heap.size, 0, none⟩) 1 1)) (w.alloc (.cells #[.int .u64 z] 62)) := by
  have h1 : (Instr.buildSlice 102 1 #[(0, .int .u64 z)]).run Try.prog w = .ok (.slice (some ⟨w.heap.size, 0, none⟩) 1 1) (w.alloc (.cells #[.int .u64 z] 62)) := by kernel_rfl
  unfold execOp
  simp only [ho, List.map_toArray, List.map_cons, List.map_nil, hx, Sem.run_bind, h1, Result.andThen_ok, Sem.run_pure]
theorem nc_oneU (w : World) (n : Nat) (hn : n < lim) : NC (w.alloc (.cells #[.int .u64 (n : Int)] 62)) .u64 (some ⟨w.heap.size, 0, none⟩) 1 [n] :=
  OB.nc (e := 62) (B := 0) (OB.one (heap_alloc_new _ _) (Nat.zero_le _) (by rw [max_u64]; unfold lim at hn; omega))
theorem wpList_oneU {ops : Array Oper} {rest : List Oper} {o : Oper} {a : Act} {w : World} {Q : Exit → Act → World → Prop} (dst : Nat) (hd : o.dst = some dst) (hgd : o.guard = none) (x : Operand) (ho : o.op = .buildSlice 102 1 #[(0, x)]) (z : Nat) (hz : z < lim) (hx : a.eval x = .int .u64 (z : Int))
    (h : ∀ w' g, Gro w w' → w.heap.size = g → NC w' .u64 (some ⟨g, 0, none⟩) 1 [z] → wpList Try.prog ops Q rest (a.put (some dst) (.slice (some ⟨g, 0, none⟩) 1 1)) w') : wpList Try.prog ops Q (o :: rest) a w :=
  wpList_plain hgd fun _ hK => by
    unfold Oper.wp
    rw [run_oneU x ho z hx, Oper.upon_value, hd]
    exact hK _ _ (h _ _ (gro_alloc _ _) rfl (nc_oneU w z hz))
theorem putN_one (n : Nat) : putN [n] = numL n := by simp [putN]
theorem putNum_one (g n : Nat) (w : World) (h : NC w .u64 (some ⟨g, 0, none⟩) 1 [n]) : Calls Try.prog 23 #[.slice (some ⟨g, 0, none⟩) 1 1] w (RetE (rowE w.heap.size (numL n)) w) :=
  (putNum_any (some ⟨g, 0, none⟩) 1 [n] w h (by simp)).mono fun e w' ⟨ao, cap, L, he, hL, ho, hb⟩ => by
    have e1 : L = numL n := hL.out.trans (putN_one n)
    subst e1
    exact ⟨_, he, hb, ao, cap, rfl, ho⟩
/-! ### Numbers -/
def nI (x : Int) : List Nat := numL x.toNat
def okN (x : Int) : Prop := 0 ≤ x ∧ x < 9223372036854775808
theorem okN.lim {x : Int} (h : okN x) : x.toNat < lim := by unfold okN at h; unfold Go.Proofs.Ythmcnlmphikicab.lim; omega
theorem nI_len (x : Int) : (nI x).length ≤ 9 := numL_le _
theorem convU {o : Oper} {A : Act} (t : TypeId) (x : Operand) (ho : o.op = .convert t 62 x) (ht : Try.prog.underlying t = some (.int .i64)) (n : Int) (hn : okN n) (hx : A.eval x = .int .i64 n) (w : World) : (execOp A.eval o).run Try.prog w = .ok (.value (.int .u64 ((n.toNat : Nat) : Int))) w := by
  have h : IntKind.u64.wrap n = ((n.toNat : Nat) : Int) := by
    unfold okN at hn
    simp [IntKind.wrap, IntKind.bits, IntKind.signed]
    omega
  unfold execOp
  simp only [ho, hx]
  simp [convert, run_underlying ht, go_sem, Conv.intToInt, h]
theorem info_of {P : Program} {e : TypeId} {z : Option Value} {n b : Nat} (h : (P.info? e).map (fun i => (i.zero, i.size, i.bytes)) = some (z, n, b)) : ∃ i, P.info? e = some i ∧ i.zero = z ∧ i.size = n ∧ i.bytes = b := by
  cases hi : P.info? e with
  | none => rw [hi] at h; cases h
  | some i =>
    rw [hi] at h
    simp only [Option.map_some, Option.some.injEq, Prod.mk.injEq] at h
    exact ⟨i, rfl, h.1, h.2.1, h.2.2⟩
theorem iT140 : RowT Try.prog 121 2 1 8 (.int .i64 0) := ⟨Try.underlying121, info_of (by kernel_rfl), rfl, by decide⟩
theorem iT28 : RowT Try.prog 32 3 1 8 (.int .i64 0) := ⟨Try.underlying32, info_of (by kernel_rfl), rfl, by decide⟩
theorem iT29 : RowT Try.prog 33 27 16 16 (.agg (c23 zF)) := ⟨Try.underlying33, info_of (by kernel_rfl), rfl, by decide⟩
theorem bX : RowT Try.prog 36 5 1 1 (.int .u8 0) := ⟨Try.underlying36, info_of (by kernel_rfl), rfl, by decide⟩
theorem flatN_step (l : List Int) (k : Nat) (h : k < l.length) : (l.take (k + 1)).flatMap nI = (l.take k).flatMap nI ++ nI (l.getD k 0) := by
  rw [take_one l 0 k h]
  simp
theorem flatN_len (l : List Int) : (l.flatMap nI).length ≤ 9 * l.length := by
  induction l with
  | nil => simp
  | cons x l ih =>
    have := nI_len x
    simp only [List.flatMap_cons, List.length_append, List.length_cons]
    omega
theorem xc_at1 {w : World} {ao : Option Addr} {cap : Nat} {l : List Int} (h : XC w 1 ao cap l.length (l.map (Value.int .i64 ·))) {j : Nat} (hj : j < l.length) : ∃ ad, ao = some ad ∧ w.cell? (ad.add j) = some (.int .i64 (l.getD j 0)) := by
  obtain ⟨ad, rfl⟩ := h.some (by omega)
  refine ⟨ad, rfl, h.cell ad rfl j _ ?_⟩
  rw [List.getElem?_map, List.getElem?_eq_getElem hj, List.getD_eq_getElem?_getD, List.getElem?_eq_getElem hj]
  rfl
theorem run_ldc1 {P : Program} {o : Oper} {A : Act} {w : World} (ty : TypeId) (hu : (isAgg ty).run P w = .ok false w) (x : Operand) (ho : o.op = .load ty x) (p : Addr) (hx : A.eval x = .pointer (some p)) (v : Value) (hc : w.cell? p = some v) :
    (execOp A.eval o).run P w = .ok (.value v) w := by
  unfold execOp
  simp only [ho, hx]
  simp [Instr.loadAt, Instr.sureAddr, Sem.run_bind, loadVar, hu, hc, go_sem]
set_option maxHeartbeats 3200000 in
theorem numberBytes_any (ao : Option Addr) (cap : Nat) (l : List Int) (w : World) (HC : XC w 1 ao cap l.length (l.map (Value.int .i64 ·))) (hok : ∀ x ∈ l, okN x) (hlen : 9 * l.length + 9 ≤ 140737488355000) : Calls Try.prog 37 #[.slice ao l.length cap] w (AppP w w.heap.size (l.flatMap nI)) := by
  obtain ⟨B, hB⟩ : ∃ B, w.heap.size = B := ⟨_, rfl⟩
  have HB : Shut (w.heap.size = B) := ⟨hB⟩
  have hBw : B ≤ w.heap.size := by omega
  rw [hB]
  clear hB
  have HL : Shut (9 * l.length + 9 ≤ 140737488355000) := ⟨hlen⟩
  have hLim : l.length < lim := by unfold lim; omega
  have HLim : Shut (l.length < lim) := ⟨hLim⟩
  have hl9 : l.length ≤ 140737488355000 := by omega
  clear hlen hLim
  go_enter Try.func37, Try.ntmps37
  go_wp2
  go_loopw [3, 8] (fun v i wr => ∃ (j : Nat) (ao : Option Addr) (cap : Nat) (L : List Nat), j ≤ l.length ∧ i = .int .i64 (j : Int) ∧ v = .slice ao L.length cap ∧ Shut (L = (l.take j).flatMap nI) ∧ OB wr 5 .u8 B ao cap L ∧ Below B w wr) (fun _ i _ => l.length - (intOf i).toNat)
  case atStart => exact ⟨0, none, 0, [], by omega, rfl, rfl, ⟨by simp⟩, OB.nil _ _ _ _, Below.refl _ _⟩
  case round =>
    rename_i wr
    obtain ⟨j, ao1, cap1, L, hj, rfl, rfl, EL, HO, BB⟩ := hrel
    cases hlt : decide ((j : Int) < (l.length : Int))
    · have ej : j = l.length := by simp at hlt; omega
      have EF : Shut (L = l.flatMap nI) := ⟨by rw [EL.out, ej, List.take_length]⟩
      clear ej
      go_wp2_with (first | (with_reducible refine wpList_at ?_; first | (refine wpList_value_d 9 rfl rfl (.bool false) (run_lss64 _ _ _ rfl (j : Int) (l.length : Int) rfl rfl false hlt _) ?_; (try simp only [Act.put, List.setIfInBounds_toArray, List.set_cons_zero, List.set_cons_succ]))))
      go_ret
      exact ⟨ao1, cap1, L, rfl, EF, HO, BB⟩
    · have hjl : j < l.length := by simp at hlt; omega
      have HE : Shut _ := ⟨flatN_step l j hjl⟩
      have hL1 := flatN_len (l.take j)
      rw [List.length_take] at hL1
      have HD : Shut (L.length + 9 ≤ 140737488355000) := ⟨by have h1 := HL.out; rw [EL.out]; omega⟩
      clear hL1
      have hxo := hok _ (getD_mem l 0 j hjl)
      obtain ⟨ad, rfl, hc⟩ := xc_at1 HC hjl
      replace hc : Shut (wr.cell? (ad.add j) = _) := ⟨(World.cell?_of_block (BB.block _ (by rw [← HB.out]; exact World.block_lt_of_cell? w _ hc))).trans hc⟩
      obtain ⟨x, hx'⟩ : ∃ x, l.getD j 0 = x := ⟨_, rfl⟩
      rw [hx'] at HE hc hxo
      clear hx'
      have HX : Shut (okN x) := ⟨hxo⟩
      clear hxo
      go_wp2_with (first | (go_at_call 23; refine (putNum_one gn x.toNat _ Hn).mono ?_; rintro e wN ⟨v, rfl, GN, aoN, capN, rfl, HN⟩) | (with_reducible refine wpList_at ?_; first | (refine wpList_value_d 9 rfl rfl (.bool true) (run_lss64 _ _ _ rfl (j : Int) (l.length : Int) rfl rfl true hlt _) ?_; (try simp only [Act.put, List.setIfInBounds_toArray, List.set_cons_zero, List.set_cons_succ])) | (refine wpList_value_d 10 rfl rfl (.pointer (some (ad.add j))) ((by have := run_idxX iT140 _ _ rfl ad l.length cap j rfl rfl hjl _; rw [Nat.mul_one] at this; exact this)) ?_; (try simp only [Act.put, List.setIfInBounds_toArray, List.set_cons_zero, List.set_cons_succ])) | (refine wpList_value_d 11 rfl rfl (.int .i64 x) (run_ldc1 2 (na2 _) _ rfl (ad.add j) rfl _ hc.out) ?_; (try simp only [Act.put, List.setIfInBounds_toArray, List.set_cons_zero, List.set_cons_succ])) | (refine wpList_value_d 14 rfl rfl (.int .u64 ((x.toNat : Nat) : Int)) (convU 2 _ rfl Try.underlying2 x HX.out rfl _) ?_; (try simp only [Act.put, List.setIfInBounds_toArray, List.set_cons_zero, List.set_cons_succ])) | (refine wpList_oneU 15 rfl rfl _ rfl x.toNat HX.out.lim rfl ?_; intro wn gn Gn en Hn; (try simp only [Act.put, List.setIfInBounds_toArray, List.set_cons_zero, List.set_cons_succ])) | (refine wpList_stop rfl ?_)))
      constructor
      have BBn : Below B w wN := Below.trans BB ((Gro.trans Gn GN).mono (Nat.le_trans hBw BB.size))
      have HOn := (HO.gro Gn).gro GN
      refine wpList_app bT 17 rfl rfl _ _ rfl rfl HOn rfl HN.nc (by have := HD.out; have := nI_len x; unfold nI at this; omega) (by decide) (Nat.le_trans hBw BBn.size) ?_
      intro ao4 cap4 L4 w4 E4 HO4 B4
      clear HOn HO HN Hn Gn GN
      simp only [Act.put, List.setIfInBounds_toArray, List.set_cons_zero, List.set_cons_succ]
      go_wp2
      go_light
      go_roundw
      case rel => exact ⟨j + 1, ao4, cap4, L4, by omega, by go_num, rfl, ⟨by rw [E4.out, EL.out, HE.out]; rfl⟩, HO4, Below.trans BBn B4⟩
      case measure => simp [intOf]; omega
set_option maxHeartbeats 3200000 in
theorem trailBytes_any (ao : Option Addr) (cap : Nat) (l : List Int) (w : World) (HC : XC w 1 ao cap l.length (l.map (Value.int .i64 ·))) (hok : ∀ x ∈ l, okN x) (hlen : 9 * l.length + 18 ≤ 140737488355000) : Calls Try.prog 40 #[.slice ao l.length cap] w (AppP w w.heap.size (numL l.length ++ l.flatMap nI)) := by
  obtain ⟨B, hB⟩ : ∃ B, w.heap.size = B := ⟨_, rfl⟩
  have HB : Shut (w.heap.size = B) := ⟨hB⟩
  have hBw : B ≤ w.heap.size := by omega
  rw [hB]
  clear hB
  have HL : Shut (9 * l.length + 18 ≤ 140737488355000) := ⟨hlen⟩
  have hLim : l.length < lim := by unfold lim; omega
  have HLim : Shut (l.length < lim) := ⟨hLim⟩
  have hl9 : l.length ≤ 140737488355000 := by omega
  clear hlen hLim
  go_enter Try.func40, Try.ntmps40
  go_wp2_with (first | (go_at_call 23; refine (putNum_one gn l.length _ Hn).mono ?_; rintro e wN ⟨v, rfl, GN, aoN, capN, rfl, HN⟩) | (with_reducible refine wpList_at ?_; first | (refine wpList_value_d 8 rfl rfl (.int .u64 (l.length : Int)) (conv325 _ rfl l.length HLim.out rfl _) ?_; (try simp only [Act.put, List.setIfInBounds_toArray, List.set_cons_zero, List.set_cons_succ])) | (refine wpList_oneU 9 rfl rfl _ rfl l.length HLim.out rfl ?_; intro wn gn Gn en Hn; (try simp only [Act.put, List.setIfInBounds_toArray, List.set_cons_zero, List.set_cons_succ]))))
  have HN0 : OB wN 5 .u8 B aoN capN (numL l.length) := HN.mono (Nat.le_trans hBw Gn.size)
  have BB0 : Below B w wN := (Gro.trans Gn GN).mono hBw
  clear HN Hn Gn GN
  go_loopw [3, 13] (fun v i wr => ∃ (j : Nat) (ao : Option Addr) (cap : Nat) (L : List Nat), j ≤ l.length ∧ i = .int .i64 (j : Int) ∧ v = .slice ao L.length cap ∧ Shut (L = numL l.length ++ (l.take j).flatMap nI) ∧ OB wr 5 .u8 B ao cap L ∧ Below B w wr) (fun _ i _ => l.length - (intOf i).toNat)
  case atStart => exact ⟨0, aoN, capN, numL l.length, by omega, rfl, rfl, ⟨by simp⟩, HN0, BB0⟩
  case round =>
    rename_i wr
    obtain ⟨j, ao1, cap1, L, hj, rfl, rfl, EL, HO, BB⟩ := hrel
    cases hlt : decide ((j : Int) < (l.length : Int))
    · have ej : j = l.length := by simp at hlt; omega
      have EF : Shut (L = numL l.length ++ l.flatMap nI) := ⟨by rw [EL.out, ej, List.take_length]⟩
      clear ej
      go_wp2_with (first | (with_reducible refine wpList_at ?_; first | (refine wpList_value_d 14 rfl rfl (.bool false) (run_lss64 _ _ _ rfl (j : Int) (l.length : Int) rfl rfl false hlt _) ?_; (try simp only [Act.put, List.setIfInBounds_toArray, List.set_cons_zero, List.set_cons_succ]))))
      go_ret
      exact ⟨ao1, cap1, L, rfl, EF, HO, BB⟩
    · have hjl : j < l.length := by simp at hlt; omega
      have HE : Shut _ := ⟨flatN_step l j hjl⟩
      have hL1 := flatN_len (l.take j)
      rw [List.length_take] at hL1
      have HD : Shut (L.length + 9 ≤ 140737488355000) := ⟨by have h1 := HL.out; rw [EL.out]; simp only [List.length_append]; have h2 := numL_le l.length; omega⟩
      clear hL1
      have hxo := hok _ (getD_mem l 0 j hjl)
      obtain ⟨ad, rfl, hc⟩ := xc_at1 HC hjl
      replace hc : Shut (wr.cell? (ad.add j) = _) := ⟨(World.cell?_of_block (BB.block _ (by rw [← HB.out]; exact World.block_lt_of_cell? w _ hc))).trans hc⟩
      obtain ⟨x, hx'⟩ : ∃ x, l.getD j 0 = x := ⟨_, rfl⟩
      rw [hx'] at HE hc hxo
      clear hx'
      have HX : Shut (okN x) := ⟨hxo⟩
      clear hxo
      go_wp2_with (first | (go_at_call 23; refine (putNum_one gn x.toNat _ Hn).mono ?_; rintro e wN ⟨v, rfl, GN, aoN, capN, rfl, HN⟩) | (with_reducible refine wpList_at ?_; first | (refine wpList_value_d 14 rfl rfl (.bool true) (run_lss64 _ _ _ rfl (j : Int) (l.length : Int) rfl rfl true hlt _) ?_; (try simp only [Act.put, List.setIfInBounds_toArray, List.set_cons_zero, List.set_cons_succ])) | (refine wpList_value_d 15 rfl rfl (.pointer (some (ad.add j))) ((by have := run_idxX iT28 _ _ rfl ad l.length cap j rfl rfl hjl _; rw [Nat.mul_one] at this; exact this)) ?_; (try simp only [Act.put, List.setIfInBounds_toArray, List.set_cons_zero, List.set_cons_succ])) | (refine wpList_value_d 16 rfl rfl (.int .i64 x) (run_ldc1 3 (na3 _) _ rfl (ad.add j) rfl _ hc.out) ?_; (try simp only [Act.put, List.setIfInBounds_toArray, List.set_cons_zero, List.set_cons_succ])) | (refine wpList_value_d 19 rfl rfl (.int .u64 ((x.toNat : Nat) : Int)) (convU 3 _ rfl Try.underlying3 x HX.out rfl _) ?_; (try simp only [Act.put, List.setIfInBounds_toArray, List.set_cons_zero, List.set_cons_succ])) | (refine wpList_oneU 20 rfl rfl _ rfl x.toNat HX.out.lim rfl ?_; intro wn gn Gn en Hn; (try simp only [Act.put, List.setIfInBounds_toArray, List.set_cons_zero, List.set_cons_succ])) | (refine wpList_stop rfl ?_)))
      constructor
      have BBn : Below B w wN := Below.trans BB ((Gro.trans Gn GN).mono (Nat.le_trans hBw BB.size))
      have HOn := (HO.gro Gn).gro GN
      refine wpList_app bT 22 rfl rfl _ _ rfl rfl HOn rfl HN.nc (by have := HD.out; have := nI_len x; unfold nI at this; omega) (by decide) (Nat.le_trans hBw BBn.size) ?_
      intro ao4 cap4 L4 w4 E4 HO4 B4
      clear HOn HO HN Hn Gn GN
      simp only [Act.put, List.setIfInBounds_toArray, List.set_cons_zero, List.set_cons_succ]
      go_wp2
      go_light
      go_roundw
      case rel => exact ⟨j + 1, ao4, cap4, L4, by omega, by go_num, rfl, ⟨by rw [E4.out, EL.out, HE.out]; rw [List.append_assoc]; rfl⟩, HO4, Below.trans BBn B4⟩
      case measure => simp [intOf]; omega
end Go.Proofs.Ythmcnlmphikicab
