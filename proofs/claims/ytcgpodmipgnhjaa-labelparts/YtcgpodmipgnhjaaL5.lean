/- Labels: the document's runes. -/
import Derived.Test.YtcgpodmipgnhjaaL4
namespace Go.Proofs.Ytcgpodmipgnhjaa
open Go.RowKit
theorem runesFrom_eq (s : ByteArray) : ∀ (f p : Nat) (acc : Array Value), Conv.runesFrom s f p acc = acc ++ ((rl s f p).map fun r : Nat => Value.int .i32 (r : Int)).toArray
  | 0, p, acc => by simp [Conv.runesFrom, rl]
  | f + 1, p, acc => by
    have ih := runesFrom_eq s f
    simp only [Conv.runesFrom, rl]
    generalize Utf8.decode s p = d
    obtain ⟨c, n⟩ := d
    by_cases h : p < s.size
    · rw [if_pos h, if_pos h]
      show Conv.runesFrom s f (p + n) (acc.push (.int .i32 (c : Int))) = _
      rw [ih]
      simp
    · rw [if_neg h, if_neg h]
      simp
theorem run_to_runes (s : ByteArray) (w : World) : ∃ g cap cs w', (convert 9 22 (.string s)).run Try.prog w = .ok (.slice (some ⟨g, 0, none⟩) (runeL s).length cap) w' ∧ Gro w w' ∧ w.heap.size = g ∧ w'.heap[g]? = some (.cells cs 21 (0, 0)) ∧ ∀ j, j < (runeL s).length → cs[j]? = some (.int .i32 ((runeL s).getD j 0 : Int)) := by
  have h1 : (convert 9 22 (.string s)).run Try.prog w = (Conv.stringToRunes 21 s).run Try.prog w := by
    simp [convert, run_underlying Try.underlying9, run_underlying Try.underlying22, run_underlying Try.underlying21]
  have h2 := runesFrom_eq s s.size 0 #[]
  have h3 : Conv.runesFrom s s.size 0 #[] = ((runeL s).map fun r : Nat => Value.int .i32 (r : Int)).toArray := by rw [h2]; simp [runeL]
  rw [h1]
  unfold Conv.stringToRunes
  simp only [h3]
  have h4 : (choose (.appendCap (((runeL s).map fun r : Nat => Value.int .i32 (r : Int)).toArray).size 0 21)).run Try.prog w = .ok ((Question.appendCap (((runeL s).map fun r : Nat => Value.int .i32 (r : Int)).toArray).size 0 21).cut (w.tape w.drawn (.appendCap (((runeL s).map fun r : Nat => Value.int .i32 (r : Int)).toArray).size 0 21))) w.drew := by
    rw [run_choose_drew]
    rfl
  simp only [Sem.run_bind, h4, Result.andThen_ok, newRow, run_newObj_alloc, Sem.run_pure]
  have hsz : (((runeL s).map fun r : Nat => Value.int .i32 (r : Int)).toArray).size = (runeL s).length := by simp
  simp only [hsz]
  refine ⟨_, _, _, _, rfl, (Gro.refl w).drew.alloc _, rfl, heap_alloc_new w.drew _, fun j hj => ?_⟩
  rw [Array.getElem?_append_left (by simpa using hj), List.getElem?_toArray, List.getElem?_map, List.getElem?_eq_getElem hj, List.getD_eq_getElem?_getD, List.getElem?_eq_getElem hj]
  rfl

theorem wpList_runes {ops : Array Oper} {rest : List Oper} {o : Oper} {a : Act} {w : World} {Q : Exit → Act → World → Prop} (dst : Nat) (hd : o.dst = some dst) (hgd : o.guard = none) (x : Operand) (ho : o.op = .convert 9 22 x) (s : ByteArray) (hx : a.eval x = .string s)
    (h : ∀ w' g cap cs, Gro w w' → w.heap.size = g → w'.heap[g]? = some (.cells cs 21 (0, 0)) → Shut (∀ j, j < (runeL s).length → cs[j]? = some (.int .i32 ((runeL s).getD j 0 : Int))) → wpList Try.prog ops Q rest (a.put (some dst) (.slice (some ⟨g, 0, none⟩) (runeL s).length cap)) w') : wpList Try.prog ops Q (o :: rest) a w :=
  wpList_plain hgd fun _ hK => by
    obtain ⟨g, cap, cs, w', h1, h2, h3, h4, h5⟩ := run_to_runes s w
    have he : (execOp a.eval o).run Try.prog w = .ok (.value (.slice (some ⟨g, 0, none⟩) (runeL s).length cap)) w' := by
      unfold execOp
      simp only [ho, hx, Sem.run_bind, h1, Result.andThen_ok, Sem.run_pure]
    unfold Oper.wp
    rw [he, Oper.upon_value, hd]
    exact hK _ _ (h w' g cap cs h2 h3 h4 ⟨h5⟩)
theorem run_runeAt {o : Oper} {A : Act} (x y : Operand) (ho : o.op = .indexAddr 22 x y) (g n cap k : Nat) (hk : k < n) (hx : A.eval x = .slice (some ⟨g, 0, none⟩) n cap) (hy : A.eval y = .int .i64 (k : Int)) (w : World) : (execOp A.eval o).run Try.prog w = .ok (.value (.pointer (some ⟨g, k, none⟩))) w := by
  have h : (Instr.indexAt 22 (.slice (some ⟨g, 0, none⟩) n cap) (.int .i64 (k : Int))).run Try.prog w = .ok (.pointer (some ⟨g, k, none⟩)) w := by
    simp only [Instr.indexAt, Sem.run_bind]
    simp [Instr.sureAddr, asIntOf, Addr.add, hk]
    try intro e
    try rw [e]
  unfold execOp
  simp only [ho, hx, hy, Sem.run_bind, h, Result.andThen_ok, Sem.run_pure]
theorem run_runeLoad {o : Oper} {A : Act} (x : Operand) (ho : o.op = .load 21 x) (g j : Nat) (hx : A.eval x = .pointer (some ⟨g, j, none⟩)) (w : World) (v : Value) (t : TypeId) (cs : Array Value) (hg : w.heap[g]? = some (.cells cs t (0, 0))) (hv : cs[j]? = some v) : (execOp A.eval o).run Try.prog w = .ok (.value v) w := by
  have hc : w.cell? ⟨g, j, none⟩ = some v := by rw [cell_of_row w g j _ t _ hg]; exact hv
  unfold execOp
  simp only [ho, hx]
  simp [go_sem, hc]
theorem run_add32 {o : Oper} {A : Act} (x y : Operand) (t2 : TypeId) (ho : o.op = .binOp .add 21 x y t2) (c : Nat) (hc : c ≤ 90) (hx : A.eval x = .int .i32 (c : Int)) (hy : A.eval y = .int .i32 32) (w : World) : (execOp A.eval o).run Try.prog w = .ok (.value (.int .i32 ((c + 32 : Nat) : Int))) w := by
  refine run_binop .add 21 x y t2 ho _ _ _ hx hy (by simp [eqGuard]) ?_
  have h : ∀ c : Fin 91, IntKind.i32.wrap ((c.val : Int) + 32) = ((c.val + 32 : Nat) : Int) := by decide +kernel
  have h' := h ⟨c, by omega⟩
  simp only at h'
  generalize ((c + 32 : Nat) : Int) = q at *
  simp [go_sem, h']
theorem run_geq_p {o : Oper} {A : Act} (x y : Operand) (t2 : TypeId) (ho : o.op = .binOp .geq 21 x y t2) (c m : Int) (hx : A.eval x = .int .i32 c) (hy : A.eval y = .int .i32 m) (b : Bool) (hb : decide (m ≤ c) = b) (w : World) : (execOp A.eval o).run Try.prog w = .ok (.value (.bool b)) w := by
  refine run_binop .geq 21 x y t2 ho _ _ _ hx hy (by simp [eqGuard]) ?_
  rw [← hb]
  simp [go_sem]
theorem run_leq_p {o : Oper} {A : Act} (x y : Operand) (t2 : TypeId) (ho : o.op = .binOp .leq 21 x y t2) (c m : Int) (hx : A.eval x = .int .i32 c) (hy : A.eval y = .int .i32 m) (b : Bool) (hb : decide (c ≤ m) = b) (w : World) : (execOp A.eval o).run Try.prog w = .ok (.value (.bool b)) w := by
  refine run_binop .leq 21 x y t2 ho _ _ _ hx hy (by simp [eqGuard]) ?_
  rw [← hb]
  simp [go_sem]
theorem run_eq_p {o : Oper} {A : Act} (x y : Operand) (t2 : TypeId) (ho : o.op = .binOp .eql 21 x y t2) (c m : Int) (hx : A.eval x = .int .i32 c) (hy : A.eval y = .int .i32 m) (b : Bool) (hb : (c == m) = b) (w : World) : (execOp A.eval o).run Try.prog w = .ok (.value (.bool b)) w := by
  refine run_binop .eql 21 x y t2 ho _ _ _ hx hy (by simp [eqGuard, go_sem]) ?_
  rw [← hb]
  simp [go_sem]
theorem run_ne_p {o : Oper} {A : Act} (x y : Operand) (t2 : TypeId) (ho : o.op = .binOp .neq 21 x y t2) (c m : Int) (hx : A.eval x = .int .i32 c) (hy : A.eval y = .int .i32 m) (b : Bool) (hb : (!(c == m)) = b) (w : World) : (execOp A.eval o).run Try.prog w = .ok (.value (.bool b)) w := by
  refine run_binop .neq 21 x y t2 ho _ _ _ hx hy (by simp [eqGuard, go_sem]) ?_
  rw [← hb]
  simp [go_sem]
  rfl
theorem rl_ne (s : ByteArray) (h : s.size ≠ 0) : 0 < (runeL s).length := by
  obtain ⟨f', h1, _⟩ := rl_step s s.size 0 (by omega) (by omega)
  unfold runeL
  rw [h1]
  simp
theorem take_split (L : List Nat) (k : Nat) (h : k < L.length) : L = L.take k ++ L.getD k 0 :: L.drop (k + 1) := by
  rw [List.getD_eq_getElem?_getD, List.getElem?_eq_getElem h]
  have := (List.take_append_drop k L).symm
  rw [List.drop_eq_getElem_cons h] at this
  exact this
theorem take_one (L : List Nat) (k : Nat) (h : k < L.length) : L.take (k + 1) = L.take k ++ [L.getD k 0] := by
  rw [List.getD_eq_getElem?_getD, List.getElem?_eq_getElem h, List.take_add_one, List.getElem?_eq_getElem h]
  rfl

set_option maxHeartbeats 400000 in
theorem refrunes_empty (w : World) : Calls Try.prog 10 #[.string { data := #[] }] w (RunesP w { data := #[] }) := by
  have GG : Gro w w := Gro.refl w
  obtain ⟨h1, h2⟩ := lab_empty { data := #[] } rfl
  have H1 : Hid (labE { data := #[] } = 3) := h1
  have H2 : Hid (labL { data := #[] } = []) := h2
  have h0 : (runeL { data := #[] }).length = 0 := rfl
  clear h1 h2
  go_enter Try.func10, Try.ntmps10
  go_wp2_with (first | (with_reducible refine wpList_at ?_; first | (refine wpList_runes 9 rfl rfl _ rfl _ rfl ?_; intro w1 g1 cap1 cs1 G1 e1 k1 hc1; rw [h0]; replace GG := GG.trans G1; clear G1; (try simp only [Act.put, List.setIfInBounds_toArray, List.set_cons_zero, List.set_cons_succ]))))
  go_ret2
  exact ⟨_, by rw [H1.out]; rfl, by rw [H2.out]; exact RL.nil _, GG⟩
set_option maxHeartbeats 3200000 in
theorem refrunes_full (s : ByteArray) (h0 : s.size ≠ 0) (w : World) : Calls Try.prog 10 #[.string s] w (RunesP w s) := by
  have GG : Gro w w := Gro.refl w
  have hpos := rl_ne s h0
  obtain ⟨L, hL⟩ : ∃ L, runeL s = L := ⟨_, rfl⟩
  have HL : Shut (runeL s = L) := ⟨hL⟩
  rw [hL] at hpos
  clear hL
  go_enter Try.func10, Try.ntmps10
  go_wp2_with (first | (with_reducible refine wpList_at ?_; first | (refine wpList_runes 9 rfl rfl _ rfl _ rfl ?_; intro w1 g1 cap1 cs1 G1 e1 k1 hc1; rw [HL.out] at hc1 ⊢; have b1 := size_base GG e1; replace GG := GG.trans G1; clear G1; (try simp only [Act.put, List.setIfInBounds_toArray, List.set_cons_zero, List.set_cons_succ]))))
  go_loopw [5, 6] (fun v i wr => ∃ k : Nat, k ≤ L.length ∧ k ≤ 24 ∧ i = .int .i64 k ∧ Shut (∀ r ∈ L.take k, okR r = true) ∧ Own wr g1 v ((L.take k).map cntN) ∧ Gro w wr ∧ wr.heap[g1]? = some (.cells cs1 21 (0, 0))) (fun _ i _ => 25 - (intOf i).toNat)
  case atStart => exact ⟨0, by omega, by omega, rfl, ⟨fun r hr => by cases hr⟩, ⟨World.ownsRow_nil _ _ _ _⟩, GG, k1⟩
  case round =>
    rename_i wr
    clear k1 GG
    obtain ⟨k, hk, hk24, rfl, HK, HO, GG, k1⟩ := hrel
    cases hlt : decide ((k : Int) < (L.length : Int))
    · have ek : k = L.length := by simp at hlt; omega
      have e1 : L.take k = L := by rw [ek, List.take_length]
      rw [e1] at HK HO
      obtain ⟨h1, h2⟩ := lab_done s h0 L HL.out (by omega) HK.out
      have H1 : Hid (labE s = 0) := h1
      have H2 : Shut (labL s = L.map cntN) := ⟨h2⟩
      clear h1 h2 e1
      go_wp2
      go_ret2
      exact ⟨_, by rw [H1.out]; rfl, by rw [H2.out]; exact HO.rl, GG⟩
    · have hkl : k < L.length := by simp at hlt; omega
      obtain ⟨c, hc0⟩ : ∃ c, L.getD k 0 = c := ⟨_, rfl⟩
      have HC : Shut (L.getD k 0 = c) := ⟨hc0⟩
      have HG : Shut (cs1[k]? = some (.int .i32 (c : Int))) := ⟨by rw [hc1.out k hkl, hc0]⟩
      have HD : Shut (runeL s = L.take k ++ c :: L.drop (k + 1)) := ⟨by rw [HL.out, ← hc0]; exact take_split L k hkl⟩
      clear hc0
      cases hx : okR c
      · obtain ⟨h1, h2⟩ := lab_form s h0 _ _ c HD.out (by rw [List.length_take]; omega) hx
        have H1 : Hid (labE s = 2) := h1
        have H2 : Shut (labL s = []) := ⟨h2⟩
        have h' : ¬ ((65 ≤ c ∧ c ≤ 90) ∨ (97 ≤ c ∧ c ≤ 122) ∨ (48 ≤ c ∧ c ≤ 57) ∨ c = 45 ∨ (161 ≤ c ∧ c ≠ 65533)) := fun h2 => by
          rw [(okR_iff c).2 h2] at hx; cases hx
        have hn : c < 45 ∨ (45 < c ∧ c < 48) ∨ (57 < c ∧ c < 65) ∨ (90 < c ∧ c < 97) ∨ (122 < c ∧ c < 161) ∨ c = 65533 := by omega
        clear h1 h2 h' hx HD HK
        rcases hn with hn | ⟨hn, hn'⟩ | ⟨hn, hn'⟩ | ⟨hn, hn'⟩ | ⟨hn, hn'⟩ | hn
        · go_wp2_with (first | (with_reducible refine wpList_at ?_; first | (refine wpList_value_d 21 rfl rfl (.pointer (some ⟨g1, k, none⟩)) (run_runeAt _ _ rfl g1 _ _ k hkl rfl rfl _) ?_; (try simp only [Act.put, List.setIfInBounds_toArray, List.set_cons_zero, List.set_cons_succ])) | (refine wpList_value_d 22 rfl rfl (.int .i32 (c : Int)) (run_runeLoad _ rfl g1 k rfl _ _ 21 _ k1 HG.out) ?_; (try simp only [Act.put, List.setIfInBounds_toArray, List.set_cons_zero, List.set_cons_succ])) | (refine wl_value_d 24 rfl rfl (.bool false) (run_geq_p _ _ _ rfl (c : Int) 65 rfl rfl false (decide_eq_false (by omega)) _) ?_; (try simp only [Act.put, List.setIfInBounds_toArray, List.set_cons_zero, List.set_cons_succ])) | (refine wl_value_d 27 rfl rfl (.bool true) (run_leq_p _ _ _ rfl (c : Int) 90 rfl rfl true (decide_eq_true (by omega)) _) ?_; (try simp only [Act.put, List.setIfInBounds_toArray, List.set_cons_zero, List.set_cons_succ])) | (refine wl_value_d 32 rfl rfl (.bool false) (run_eq_p _ _ _ rfl (c : Int) 45 rfl rfl false (beq_eq_false_iff_ne.2 (by omega)) _) ?_; (try simp only [Act.put, List.setIfInBounds_toArray, List.set_cons_zero, List.set_cons_succ])) | (refine wl_value_d 35 rfl rfl (.bool false) (run_geq_p _ _ _ rfl (c : Int) 48 rfl rfl false (decide_eq_false (by omega)) _) ?_; (try simp only [Act.put, List.setIfInBounds_toArray, List.set_cons_zero, List.set_cons_succ])) | (refine wl_value_d 38 rfl rfl (.bool true) (run_leq_p _ _ _ rfl (c : Int) 57 rfl rfl true (decide_eq_true (by omega)) _) ?_; (try simp only [Act.put, List.setIfInBounds_toArray, List.set_cons_zero, List.set_cons_succ])) | (refine wl_value_d 43 rfl rfl (.bool false) (run_geq_p _ _ _ rfl (c : Int) 97 rfl rfl false (decide_eq_false (by omega)) _) ?_; (try simp only [Act.put, List.setIfInBounds_toArray, List.set_cons_zero, List.set_cons_succ])) | (refine wl_value_d 46 rfl rfl (.bool true) (run_leq_p _ _ _ rfl (c : Int) 122 rfl rfl true (decide_eq_true (by omega)) _) ?_; (try simp only [Act.put, List.setIfInBounds_toArray, List.set_cons_zero, List.set_cons_succ])) | (refine wl_value_d 51 rfl rfl (.bool false) (run_geq_p _ _ _ rfl (c : Int) 161 rfl rfl false (decide_eq_false (by omega)) _) ?_; (try simp only [Act.put, List.setIfInBounds_toArray, List.set_cons_zero, List.set_cons_succ])) | (refine wl_value_d 54 rfl rfl (.bool true) (run_ne_p _ _ _ rfl (c : Int) 65533 rfl rfl true (by simp; omega) _) ?_; (try simp only [Act.put, List.setIfInBounds_toArray, List.set_cons_zero, List.set_cons_succ]))))
          go_ret2
          exact ⟨_, by rw [H1.out]; rfl, by rw [H2.out]; exact RL.nil _, GG⟩
        · go_wp2_with (first | (with_reducible refine wpList_at ?_; first | (refine wpList_value_d 21 rfl rfl (.pointer (some ⟨g1, k, none⟩)) (run_runeAt _ _ rfl g1 _ _ k hkl rfl rfl _) ?_; (try simp only [Act.put, List.setIfInBounds_toArray, List.set_cons_zero, List.set_cons_succ])) | (refine wpList_value_d 22 rfl rfl (.int .i32 (c : Int)) (run_runeLoad _ rfl g1 k rfl _ _ 21 _ k1 HG.out) ?_; (try simp only [Act.put, List.setIfInBounds_toArray, List.set_cons_zero, List.set_cons_succ])) | (refine wl_value_d 24 rfl rfl (.bool false) (run_geq_p _ _ _ rfl (c : Int) 65 rfl rfl false (decide_eq_false (by omega)) _) ?_; (try simp only [Act.put, List.setIfInBounds_toArray, List.set_cons_zero, List.set_cons_succ])) | (refine wl_value_d 27 rfl rfl (.bool true) (run_leq_p _ _ _ rfl (c : Int) 90 rfl rfl true (decide_eq_true (by omega)) _) ?_; (try simp only [Act.put, List.setIfInBounds_toArray, List.set_cons_zero, List.set_cons_succ])) | (refine wl_value_d 32 rfl rfl (.bool false) (run_eq_p _ _ _ rfl (c : Int) 45 rfl rfl false (beq_eq_false_iff_ne.2 (by omega)) _) ?_; (try simp only [Act.put, List.setIfInBounds_toArray, List.set_cons_zero, List.set_cons_succ])) | (refine wl_value_d 35 rfl rfl (.bool false) (run_geq_p _ _ _ rfl (c : Int) 48 rfl rfl false (decide_eq_false (by omega)) _) ?_; (try simp only [Act.put, List.setIfInBounds_toArray, List.set_cons_zero, List.set_cons_succ])) | (refine wl_value_d 38 rfl rfl (.bool true) (run_leq_p _ _ _ rfl (c : Int) 57 rfl rfl true (decide_eq_true (by omega)) _) ?_; (try simp only [Act.put, List.setIfInBounds_toArray, List.set_cons_zero, List.set_cons_succ])) | (refine wl_value_d 43 rfl rfl (.bool false) (run_geq_p _ _ _ rfl (c : Int) 97 rfl rfl false (decide_eq_false (by omega)) _) ?_; (try simp only [Act.put, List.setIfInBounds_toArray, List.set_cons_zero, List.set_cons_succ])) | (refine wl_value_d 46 rfl rfl (.bool true) (run_leq_p _ _ _ rfl (c : Int) 122 rfl rfl true (decide_eq_true (by omega)) _) ?_; (try simp only [Act.put, List.setIfInBounds_toArray, List.set_cons_zero, List.set_cons_succ])) | (refine wl_value_d 51 rfl rfl (.bool false) (run_geq_p _ _ _ rfl (c : Int) 161 rfl rfl false (decide_eq_false (by omega)) _) ?_; (try simp only [Act.put, List.setIfInBounds_toArray, List.set_cons_zero, List.set_cons_succ])) | (refine wl_value_d 54 rfl rfl (.bool true) (run_ne_p _ _ _ rfl (c : Int) 65533 rfl rfl true (by simp; omega) _) ?_; (try simp only [Act.put, List.setIfInBounds_toArray, List.set_cons_zero, List.set_cons_succ]))))
          go_ret2
          exact ⟨_, by rw [H1.out]; rfl, by rw [H2.out]; exact RL.nil _, GG⟩
        · go_wp2_with (first | (with_reducible refine wpList_at ?_; first | (refine wpList_value_d 21 rfl rfl (.pointer (some ⟨g1, k, none⟩)) (run_runeAt _ _ rfl g1 _ _ k hkl rfl rfl _) ?_; (try simp only [Act.put, List.setIfInBounds_toArray, List.set_cons_zero, List.set_cons_succ])) | (refine wpList_value_d 22 rfl rfl (.int .i32 (c : Int)) (run_runeLoad _ rfl g1 k rfl _ _ 21 _ k1 HG.out) ?_; (try simp only [Act.put, List.setIfInBounds_toArray, List.set_cons_zero, List.set_cons_succ])) | (refine wl_value_d 24 rfl rfl (.bool false) (run_geq_p _ _ _ rfl (c : Int) 65 rfl rfl false (decide_eq_false (by omega)) _) ?_; (try simp only [Act.put, List.setIfInBounds_toArray, List.set_cons_zero, List.set_cons_succ])) | (refine wl_value_d 27 rfl rfl (.bool true) (run_leq_p _ _ _ rfl (c : Int) 90 rfl rfl true (decide_eq_true (by omega)) _) ?_; (try simp only [Act.put, List.setIfInBounds_toArray, List.set_cons_zero, List.set_cons_succ])) | (refine wl_value_d 32 rfl rfl (.bool false) (run_eq_p _ _ _ rfl (c : Int) 45 rfl rfl false (beq_eq_false_iff_ne.2 (by omega)) _) ?_; (try simp only [Act.put, List.setIfInBounds_toArray, List.set_cons_zero, List.set_cons_succ])) | (refine wl_value_d 35 rfl rfl (.bool true) (run_geq_p _ _ _ rfl (c : Int) 48 rfl rfl true (decide_eq_true (by omega)) _) ?_; (try simp only [Act.put, List.setIfInBounds_toArray, List.set_cons_zero, List.set_cons_succ])) | (refine wl_value_d 38 rfl rfl (.bool false) (run_leq_p _ _ _ rfl (c : Int) 57 rfl rfl false (decide_eq_false (by omega)) _) ?_; (try simp only [Act.put, List.setIfInBounds_toArray, List.set_cons_zero, List.set_cons_succ])) | (refine wl_value_d 43 rfl rfl (.bool false) (run_geq_p _ _ _ rfl (c : Int) 97 rfl rfl false (decide_eq_false (by omega)) _) ?_; (try simp only [Act.put, List.setIfInBounds_toArray, List.set_cons_zero, List.set_cons_succ])) | (refine wl_value_d 46 rfl rfl (.bool true) (run_leq_p _ _ _ rfl (c : Int) 122 rfl rfl true (decide_eq_true (by omega)) _) ?_; (try simp only [Act.put, List.setIfInBounds_toArray, List.set_cons_zero, List.set_cons_succ])) | (refine wl_value_d 51 rfl rfl (.bool false) (run_geq_p _ _ _ rfl (c : Int) 161 rfl rfl false (decide_eq_false (by omega)) _) ?_; (try simp only [Act.put, List.setIfInBounds_toArray, List.set_cons_zero, List.set_cons_succ])) | (refine wl_value_d 54 rfl rfl (.bool true) (run_ne_p _ _ _ rfl (c : Int) 65533 rfl rfl true (by simp; omega) _) ?_; (try simp only [Act.put, List.setIfInBounds_toArray, List.set_cons_zero, List.set_cons_succ]))))
          go_ret2
          exact ⟨_, by rw [H1.out]; rfl, by rw [H2.out]; exact RL.nil _, GG⟩
        · go_wp2_with (first | (with_reducible refine wpList_at ?_; first | (refine wpList_value_d 21 rfl rfl (.pointer (some ⟨g1, k, none⟩)) (run_runeAt _ _ rfl g1 _ _ k hkl rfl rfl _) ?_; (try simp only [Act.put, List.setIfInBounds_toArray, List.set_cons_zero, List.set_cons_succ])) | (refine wpList_value_d 22 rfl rfl (.int .i32 (c : Int)) (run_runeLoad _ rfl g1 k rfl _ _ 21 _ k1 HG.out) ?_; (try simp only [Act.put, List.setIfInBounds_toArray, List.set_cons_zero, List.set_cons_succ])) | (refine wl_value_d 24 rfl rfl (.bool true) (run_geq_p _ _ _ rfl (c : Int) 65 rfl rfl true (decide_eq_true (by omega)) _) ?_; (try simp only [Act.put, List.setIfInBounds_toArray, List.set_cons_zero, List.set_cons_succ])) | (refine wl_value_d 27 rfl rfl (.bool false) (run_leq_p _ _ _ rfl (c : Int) 90 rfl rfl false (decide_eq_false (by omega)) _) ?_; (try simp only [Act.put, List.setIfInBounds_toArray, List.set_cons_zero, List.set_cons_succ])) | (refine wl_value_d 32 rfl rfl (.bool false) (run_eq_p _ _ _ rfl (c : Int) 45 rfl rfl false (beq_eq_false_iff_ne.2 (by omega)) _) ?_; (try simp only [Act.put, List.setIfInBounds_toArray, List.set_cons_zero, List.set_cons_succ])) | (refine wl_value_d 35 rfl rfl (.bool true) (run_geq_p _ _ _ rfl (c : Int) 48 rfl rfl true (decide_eq_true (by omega)) _) ?_; (try simp only [Act.put, List.setIfInBounds_toArray, List.set_cons_zero, List.set_cons_succ])) | (refine wl_value_d 38 rfl rfl (.bool false) (run_leq_p _ _ _ rfl (c : Int) 57 rfl rfl false (decide_eq_false (by omega)) _) ?_; (try simp only [Act.put, List.setIfInBounds_toArray, List.set_cons_zero, List.set_cons_succ])) | (refine wl_value_d 43 rfl rfl (.bool false) (run_geq_p _ _ _ rfl (c : Int) 97 rfl rfl false (decide_eq_false (by omega)) _) ?_; (try simp only [Act.put, List.setIfInBounds_toArray, List.set_cons_zero, List.set_cons_succ])) | (refine wl_value_d 46 rfl rfl (.bool true) (run_leq_p _ _ _ rfl (c : Int) 122 rfl rfl true (decide_eq_true (by omega)) _) ?_; (try simp only [Act.put, List.setIfInBounds_toArray, List.set_cons_zero, List.set_cons_succ])) | (refine wl_value_d 51 rfl rfl (.bool false) (run_geq_p _ _ _ rfl (c : Int) 161 rfl rfl false (decide_eq_false (by omega)) _) ?_; (try simp only [Act.put, List.setIfInBounds_toArray, List.set_cons_zero, List.set_cons_succ])) | (refine wl_value_d 54 rfl rfl (.bool true) (run_ne_p _ _ _ rfl (c : Int) 65533 rfl rfl true (by simp; omega) _) ?_; (try simp only [Act.put, List.setIfInBounds_toArray, List.set_cons_zero, List.set_cons_succ]))))
          go_ret2
          exact ⟨_, by rw [H1.out]; rfl, by rw [H2.out]; exact RL.nil _, GG⟩
        · go_wp2_with (first | (with_reducible refine wpList_at ?_; first | (refine wpList_value_d 21 rfl rfl (.pointer (some ⟨g1, k, none⟩)) (run_runeAt _ _ rfl g1 _ _ k hkl rfl rfl _) ?_; (try simp only [Act.put, List.setIfInBounds_toArray, List.set_cons_zero, List.set_cons_succ])) | (refine wpList_value_d 22 rfl rfl (.int .i32 (c : Int)) (run_runeLoad _ rfl g1 k rfl _ _ 21 _ k1 HG.out) ?_; (try simp only [Act.put, List.setIfInBounds_toArray, List.set_cons_zero, List.set_cons_succ])) | (refine wl_value_d 24 rfl rfl (.bool true) (run_geq_p _ _ _ rfl (c : Int) 65 rfl rfl true (decide_eq_true (by omega)) _) ?_; (try simp only [Act.put, List.setIfInBounds_toArray, List.set_cons_zero, List.set_cons_succ])) | (refine wl_value_d 27 rfl rfl (.bool false) (run_leq_p _ _ _ rfl (c : Int) 90 rfl rfl false (decide_eq_false (by omega)) _) ?_; (try simp only [Act.put, List.setIfInBounds_toArray, List.set_cons_zero, List.set_cons_succ])) | (refine wl_value_d 32 rfl rfl (.bool false) (run_eq_p _ _ _ rfl (c : Int) 45 rfl rfl false (beq_eq_false_iff_ne.2 (by omega)) _) ?_; (try simp only [Act.put, List.setIfInBounds_toArray, List.set_cons_zero, List.set_cons_succ])) | (refine wl_value_d 35 rfl rfl (.bool true) (run_geq_p _ _ _ rfl (c : Int) 48 rfl rfl true (decide_eq_true (by omega)) _) ?_; (try simp only [Act.put, List.setIfInBounds_toArray, List.set_cons_zero, List.set_cons_succ])) | (refine wl_value_d 38 rfl rfl (.bool false) (run_leq_p _ _ _ rfl (c : Int) 57 rfl rfl false (decide_eq_false (by omega)) _) ?_; (try simp only [Act.put, List.setIfInBounds_toArray, List.set_cons_zero, List.set_cons_succ])) | (refine wl_value_d 43 rfl rfl (.bool true) (run_geq_p _ _ _ rfl (c : Int) 97 rfl rfl true (decide_eq_true (by omega)) _) ?_; (try simp only [Act.put, List.setIfInBounds_toArray, List.set_cons_zero, List.set_cons_succ])) | (refine wl_value_d 46 rfl rfl (.bool false) (run_leq_p _ _ _ rfl (c : Int) 122 rfl rfl false (decide_eq_false (by omega)) _) ?_; (try simp only [Act.put, List.setIfInBounds_toArray, List.set_cons_zero, List.set_cons_succ])) | (refine wl_value_d 51 rfl rfl (.bool false) (run_geq_p _ _ _ rfl (c : Int) 161 rfl rfl false (decide_eq_false (by omega)) _) ?_; (try simp only [Act.put, List.setIfInBounds_toArray, List.set_cons_zero, List.set_cons_succ])) | (refine wl_value_d 54 rfl rfl (.bool true) (run_ne_p _ _ _ rfl (c : Int) 65533 rfl rfl true (by simp; omega) _) ?_; (try simp only [Act.put, List.setIfInBounds_toArray, List.set_cons_zero, List.set_cons_succ]))))
          go_ret2
          exact ⟨_, by rw [H1.out]; rfl, by rw [H2.out]; exact RL.nil _, GG⟩
        · go_wp2_with (first | (with_reducible refine wpList_at ?_; first | (refine wpList_value_d 21 rfl rfl (.pointer (some ⟨g1, k, none⟩)) (run_runeAt _ _ rfl g1 _ _ k hkl rfl rfl _) ?_; (try simp only [Act.put, List.setIfInBounds_toArray, List.set_cons_zero, List.set_cons_succ])) | (refine wpList_value_d 22 rfl rfl (.int .i32 (c : Int)) (run_runeLoad _ rfl g1 k rfl _ _ 21 _ k1 HG.out) ?_; (try simp only [Act.put, List.setIfInBounds_toArray, List.set_cons_zero, List.set_cons_succ])) | (refine wl_value_d 24 rfl rfl (.bool true) (run_geq_p _ _ _ rfl (c : Int) 65 rfl rfl true (decide_eq_true (by omega)) _) ?_; (try simp only [Act.put, List.setIfInBounds_toArray, List.set_cons_zero, List.set_cons_succ])) | (refine wl_value_d 27 rfl rfl (.bool false) (run_leq_p _ _ _ rfl (c : Int) 90 rfl rfl false (decide_eq_false (by omega)) _) ?_; (try simp only [Act.put, List.setIfInBounds_toArray, List.set_cons_zero, List.set_cons_succ])) | (refine wl_value_d 32 rfl rfl (.bool false) (run_eq_p _ _ _ rfl (c : Int) 45 rfl rfl false (beq_eq_false_iff_ne.2 (by omega)) _) ?_; (try simp only [Act.put, List.setIfInBounds_toArray, List.set_cons_zero, List.set_cons_succ])) | (refine wl_value_d 35 rfl rfl (.bool true) (run_geq_p _ _ _ rfl (c : Int) 48 rfl rfl true (decide_eq_true (by omega)) _) ?_; (try simp only [Act.put, List.setIfInBounds_toArray, List.set_cons_zero, List.set_cons_succ])) | (refine wl_value_d 38 rfl rfl (.bool false) (run_leq_p _ _ _ rfl (c : Int) 57 rfl rfl false (decide_eq_false (by omega)) _) ?_; (try simp only [Act.put, List.setIfInBounds_toArray, List.set_cons_zero, List.set_cons_succ])) | (refine wl_value_d 43 rfl rfl (.bool true) (run_geq_p _ _ _ rfl (c : Int) 97 rfl rfl true (decide_eq_true (by omega)) _) ?_; (try simp only [Act.put, List.setIfInBounds_toArray, List.set_cons_zero, List.set_cons_succ])) | (refine wl_value_d 46 rfl rfl (.bool false) (run_leq_p _ _ _ rfl (c : Int) 122 rfl rfl false (decide_eq_false (by omega)) _) ?_; (try simp only [Act.put, List.setIfInBounds_toArray, List.set_cons_zero, List.set_cons_succ])) | (refine wl_value_d 51 rfl rfl (.bool true) (run_geq_p _ _ _ rfl (c : Int) 161 rfl rfl true (decide_eq_true (by omega)) _) ?_; (try simp only [Act.put, List.setIfInBounds_toArray, List.set_cons_zero, List.set_cons_succ])) | (refine wl_value_d 54 rfl rfl (.bool false) (run_ne_p _ _ _ rfl (c : Int) 65533 rfl rfl false (by simp; omega) _) ?_; (try simp only [Act.put, List.setIfInBounds_toArray, List.set_cons_zero, List.set_cons_succ]))))
          go_ret2
          exact ⟨_, by rw [H1.out]; rfl, by rw [H2.out]; exact RL.nil _, GG⟩
      · have hcs := (okR_iff c).1 hx
        have HX : Shut (okR c = true) := ⟨hx⟩
        by_cases e24 : k = 24
        · subst e24
          obtain ⟨h1, h2⟩ := lab_long s h0 _ _ c HD.out (by rw [List.length_take]; omega) HK.out hx
          have H1 : Hid (labE s = 4) := h1
          have H2 : Shut (labL s = []) := ⟨h2⟩
          clear h1 h2 hx HD HK
          rcases hcs with ⟨hca, hcb⟩ | ⟨hca, hcb⟩ | ⟨hca, hcb⟩ | hca | ⟨hca, hcb⟩
          · go_wp2_with (first | (with_reducible refine wpList_at ?_; first | (refine wpList_value_d 21 rfl rfl (.pointer (some ⟨g1, 24, none⟩)) (run_runeAt _ _ rfl g1 _ _ 24 hkl rfl rfl _) ?_; (try simp only [Act.put, List.setIfInBounds_toArray, List.set_cons_zero, List.set_cons_succ])) | (refine wpList_value_d 22 rfl rfl (.int .i32 (c : Int)) (run_runeLoad _ rfl g1 24 rfl _ _ 21 _ k1 HG.out) ?_; (try simp only [Act.put, List.setIfInBounds_toArray, List.set_cons_zero, List.set_cons_succ])) | (refine wl_value_d 24 rfl rfl (.bool true) (run_geq_p _ _ _ rfl (c : Int) 65 rfl rfl true (decide_eq_true (by omega)) _) ?_; (try simp only [Act.put, List.setIfInBounds_toArray, List.set_cons_zero, List.set_cons_succ])) | (refine wl_value_d 27 rfl rfl (.bool true) (run_leq_p _ _ _ rfl (c : Int) 90 rfl rfl true (decide_eq_true (by omega)) _) ?_; (try simp only [Act.put, List.setIfInBounds_toArray, List.set_cons_zero, List.set_cons_succ])) | (refine wl_value_d 32 rfl rfl (.bool false) (run_eq_p _ _ _ rfl ((c + 32 : Nat) : Int) 45 rfl rfl false (beq_eq_false_iff_ne.2 (by omega)) _) ?_; (try simp only [Act.put, List.setIfInBounds_toArray, List.set_cons_zero, List.set_cons_succ])) | (refine wl_value_d 35 rfl rfl (.bool true) (run_geq_p _ _ _ rfl ((c + 32 : Nat) : Int) 48 rfl rfl true (decide_eq_true (by omega)) _) ?_; (try simp only [Act.put, List.setIfInBounds_toArray, List.set_cons_zero, List.set_cons_succ])) | (refine wl_value_d 38 rfl rfl (.bool false) (run_leq_p _ _ _ rfl ((c + 32 : Nat) : Int) 57 rfl rfl false (decide_eq_false (by omega)) _) ?_; (try simp only [Act.put, List.setIfInBounds_toArray, List.set_cons_zero, List.set_cons_succ])) | (refine wl_value_d 43 rfl rfl (.bool true) (run_geq_p _ _ _ rfl ((c + 32 : Nat) : Int) 97 rfl rfl true (decide_eq_true (by omega)) _) ?_; (try simp only [Act.put, List.setIfInBounds_toArray, List.set_cons_zero, List.set_cons_succ])) | (refine wl_value_d 46 rfl rfl (.bool true) (run_leq_p _ _ _ rfl ((c + 32 : Nat) : Int) 122 rfl rfl true (decide_eq_true (by omega)) _) ?_; (try simp only [Act.put, List.setIfInBounds_toArray, List.set_cons_zero, List.set_cons_succ])) | (refine wl_value_d 51 rfl rfl (.bool false) (run_geq_p _ _ _ rfl ((c + 32 : Nat) : Int) 161 rfl rfl false (decide_eq_false (by omega)) _) ?_; (try simp only [Act.put, List.setIfInBounds_toArray, List.set_cons_zero, List.set_cons_succ])) | (refine wl_value_d 54 rfl rfl (.bool true) (run_ne_p _ _ _ rfl ((c + 32 : Nat) : Int) 65533 rfl rfl true (by simp; omega) _) ?_; (try simp only [Act.put, List.setIfInBounds_toArray, List.set_cons_zero, List.set_cons_succ])) | (refine wpList_value_d 30 rfl rfl (.int .i32 ((c + 32 : Nat) : Int)) (run_add32 _ _ _ rfl c (by omega) rfl rfl _) ?_; (try simp only [Act.put, List.setIfInBounds_toArray, List.set_cons_zero, List.set_cons_succ]))))
            go_ret2
            exact ⟨_, by rw [H1.out]; rfl, by rw [H2.out]; exact RL.nil _, GG⟩
          · go_wp2_with (first | (with_reducible refine wpList_at ?_; first | (refine wpList_value_d 21 rfl rfl (.pointer (some ⟨g1, 24, none⟩)) (run_runeAt _ _ rfl g1 _ _ 24 hkl rfl rfl _) ?_; (try simp only [Act.put, List.setIfInBounds_toArray, List.set_cons_zero, List.set_cons_succ])) | (refine wpList_value_d 22 rfl rfl (.int .i32 (c : Int)) (run_runeLoad _ rfl g1 24 rfl _ _ 21 _ k1 HG.out) ?_; (try simp only [Act.put, List.setIfInBounds_toArray, List.set_cons_zero, List.set_cons_succ])) | (refine wl_value_d 24 rfl rfl (.bool true) (run_geq_p _ _ _ rfl (c : Int) 65 rfl rfl true (decide_eq_true (by omega)) _) ?_; (try simp only [Act.put, List.setIfInBounds_toArray, List.set_cons_zero, List.set_cons_succ])) | (refine wl_value_d 27 rfl rfl (.bool false) (run_leq_p _ _ _ rfl (c : Int) 90 rfl rfl false (decide_eq_false (by omega)) _) ?_; (try simp only [Act.put, List.setIfInBounds_toArray, List.set_cons_zero, List.set_cons_succ])) | (refine wl_value_d 32 rfl rfl (.bool false) (run_eq_p _ _ _ rfl (c : Int) 45 rfl rfl false (beq_eq_false_iff_ne.2 (by omega)) _) ?_; (try simp only [Act.put, List.setIfInBounds_toArray, List.set_cons_zero, List.set_cons_succ])) | (refine wl_value_d 35 rfl rfl (.bool true) (run_geq_p _ _ _ rfl (c : Int) 48 rfl rfl true (decide_eq_true (by omega)) _) ?_; (try simp only [Act.put, List.setIfInBounds_toArray, List.set_cons_zero, List.set_cons_succ])) | (refine wl_value_d 38 rfl rfl (.bool false) (run_leq_p _ _ _ rfl (c : Int) 57 rfl rfl false (decide_eq_false (by omega)) _) ?_; (try simp only [Act.put, List.setIfInBounds_toArray, List.set_cons_zero, List.set_cons_succ])) | (refine wl_value_d 43 rfl rfl (.bool true) (run_geq_p _ _ _ rfl (c : Int) 97 rfl rfl true (decide_eq_true (by omega)) _) ?_; (try simp only [Act.put, List.setIfInBounds_toArray, List.set_cons_zero, List.set_cons_succ])) | (refine wl_value_d 46 rfl rfl (.bool true) (run_leq_p _ _ _ rfl (c : Int) 122 rfl rfl true (decide_eq_true (by omega)) _) ?_; (try simp only [Act.put, List.setIfInBounds_toArray, List.set_cons_zero, List.set_cons_succ])) | (refine wl_value_d 51 rfl rfl (.bool false) (run_geq_p _ _ _ rfl (c : Int) 161 rfl rfl false (decide_eq_false (by omega)) _) ?_; (try simp only [Act.put, List.setIfInBounds_toArray, List.set_cons_zero, List.set_cons_succ])) | (refine wl_value_d 54 rfl rfl (.bool true) (run_ne_p _ _ _ rfl (c : Int) 65533 rfl rfl true (by simp; omega) _) ?_; (try simp only [Act.put, List.setIfInBounds_toArray, List.set_cons_zero, List.set_cons_succ])) | (refine wpList_value_d 30 rfl rfl (.int .i32 ((c + 32 : Nat) : Int)) (run_add32 _ _ _ rfl c (by omega) rfl rfl _) ?_; (try simp only [Act.put, List.setIfInBounds_toArray, List.set_cons_zero, List.set_cons_succ]))))
            go_ret2
            exact ⟨_, by rw [H1.out]; rfl, by rw [H2.out]; exact RL.nil _, GG⟩
          · go_wp2_with (first | (with_reducible refine wpList_at ?_; first | (refine wpList_value_d 21 rfl rfl (.pointer (some ⟨g1, 24, none⟩)) (run_runeAt _ _ rfl g1 _ _ 24 hkl rfl rfl _) ?_; (try simp only [Act.put, List.setIfInBounds_toArray, List.set_cons_zero, List.set_cons_succ])) | (refine wpList_value_d 22 rfl rfl (.int .i32 (c : Int)) (run_runeLoad _ rfl g1 24 rfl _ _ 21 _ k1 HG.out) ?_; (try simp only [Act.put, List.setIfInBounds_toArray, List.set_cons_zero, List.set_cons_succ])) | (refine wl_value_d 24 rfl rfl (.bool false) (run_geq_p _ _ _ rfl (c : Int) 65 rfl rfl false (decide_eq_false (by omega)) _) ?_; (try simp only [Act.put, List.setIfInBounds_toArray, List.set_cons_zero, List.set_cons_succ])) | (refine wl_value_d 27 rfl rfl (.bool true) (run_leq_p _ _ _ rfl (c : Int) 90 rfl rfl true (decide_eq_true (by omega)) _) ?_; (try simp only [Act.put, List.setIfInBounds_toArray, List.set_cons_zero, List.set_cons_succ])) | (refine wl_value_d 32 rfl rfl (.bool false) (run_eq_p _ _ _ rfl (c : Int) 45 rfl rfl false (beq_eq_false_iff_ne.2 (by omega)) _) ?_; (try simp only [Act.put, List.setIfInBounds_toArray, List.set_cons_zero, List.set_cons_succ])) | (refine wl_value_d 35 rfl rfl (.bool true) (run_geq_p _ _ _ rfl (c : Int) 48 rfl rfl true (decide_eq_true (by omega)) _) ?_; (try simp only [Act.put, List.setIfInBounds_toArray, List.set_cons_zero, List.set_cons_succ])) | (refine wl_value_d 38 rfl rfl (.bool true) (run_leq_p _ _ _ rfl (c : Int) 57 rfl rfl true (decide_eq_true (by omega)) _) ?_; (try simp only [Act.put, List.setIfInBounds_toArray, List.set_cons_zero, List.set_cons_succ])) | (refine wl_value_d 43 rfl rfl (.bool false) (run_geq_p _ _ _ rfl (c : Int) 97 rfl rfl false (decide_eq_false (by omega)) _) ?_; (try simp only [Act.put, List.setIfInBounds_toArray, List.set_cons_zero, List.set_cons_succ])) | (refine wl_value_d 46 rfl rfl (.bool true) (run_leq_p _ _ _ rfl (c : Int) 122 rfl rfl true (decide_eq_true (by omega)) _) ?_; (try simp only [Act.put, List.setIfInBounds_toArray, List.set_cons_zero, List.set_cons_succ])) | (refine wl_value_d 51 rfl rfl (.bool false) (run_geq_p _ _ _ rfl (c : Int) 161 rfl rfl false (decide_eq_false (by omega)) _) ?_; (try simp only [Act.put, List.setIfInBounds_toArray, List.set_cons_zero, List.set_cons_succ])) | (refine wl_value_d 54 rfl rfl (.bool true) (run_ne_p _ _ _ rfl (c : Int) 65533 rfl rfl true (by simp; omega) _) ?_; (try simp only [Act.put, List.setIfInBounds_toArray, List.set_cons_zero, List.set_cons_succ])) | (refine wpList_value_d 30 rfl rfl (.int .i32 ((c + 32 : Nat) : Int)) (run_add32 _ _ _ rfl c (by omega) rfl rfl _) ?_; (try simp only [Act.put, List.setIfInBounds_toArray, List.set_cons_zero, List.set_cons_succ]))))
            go_ret2
            exact ⟨_, by rw [H1.out]; rfl, by rw [H2.out]; exact RL.nil _, GG⟩
          · go_wp2_with (first | (with_reducible refine wpList_at ?_; first | (refine wpList_value_d 21 rfl rfl (.pointer (some ⟨g1, 24, none⟩)) (run_runeAt _ _ rfl g1 _ _ 24 hkl rfl rfl _) ?_; (try simp only [Act.put, List.setIfInBounds_toArray, List.set_cons_zero, List.set_cons_succ])) | (refine wpList_value_d 22 rfl rfl (.int .i32 (c : Int)) (run_runeLoad _ rfl g1 24 rfl _ _ 21 _ k1 HG.out) ?_; (try simp only [Act.put, List.setIfInBounds_toArray, List.set_cons_zero, List.set_cons_succ])) | (refine wl_value_d 24 rfl rfl (.bool false) (run_geq_p _ _ _ rfl (c : Int) 65 rfl rfl false (decide_eq_false (by omega)) _) ?_; (try simp only [Act.put, List.setIfInBounds_toArray, List.set_cons_zero, List.set_cons_succ])) | (refine wl_value_d 27 rfl rfl (.bool true) (run_leq_p _ _ _ rfl (c : Int) 90 rfl rfl true (decide_eq_true (by omega)) _) ?_; (try simp only [Act.put, List.setIfInBounds_toArray, List.set_cons_zero, List.set_cons_succ])) | (refine wl_value_d 32 rfl rfl (.bool true) (run_eq_p _ _ _ rfl (c : Int) 45 rfl rfl true (beq_iff_eq.2 (by omega)) _) ?_; (try simp only [Act.put, List.setIfInBounds_toArray, List.set_cons_zero, List.set_cons_succ])) | (refine wl_value_d 35 rfl rfl (.bool false) (run_geq_p _ _ _ rfl (c : Int) 48 rfl rfl false (decide_eq_false (by omega)) _) ?_; (try simp only [Act.put, List.setIfInBounds_toArray, List.set_cons_zero, List.set_cons_succ])) | (refine wl_value_d 38 rfl rfl (.bool true) (run_leq_p _ _ _ rfl (c : Int) 57 rfl rfl true (decide_eq_true (by omega)) _) ?_; (try simp only [Act.put, List.setIfInBounds_toArray, List.set_cons_zero, List.set_cons_succ])) | (refine wl_value_d 43 rfl rfl (.bool false) (run_geq_p _ _ _ rfl (c : Int) 97 rfl rfl false (decide_eq_false (by omega)) _) ?_; (try simp only [Act.put, List.setIfInBounds_toArray, List.set_cons_zero, List.set_cons_succ])) | (refine wl_value_d 46 rfl rfl (.bool true) (run_leq_p _ _ _ rfl (c : Int) 122 rfl rfl true (decide_eq_true (by omega)) _) ?_; (try simp only [Act.put, List.setIfInBounds_toArray, List.set_cons_zero, List.set_cons_succ])) | (refine wl_value_d 51 rfl rfl (.bool false) (run_geq_p _ _ _ rfl (c : Int) 161 rfl rfl false (decide_eq_false (by omega)) _) ?_; (try simp only [Act.put, List.setIfInBounds_toArray, List.set_cons_zero, List.set_cons_succ])) | (refine wl_value_d 54 rfl rfl (.bool true) (run_ne_p _ _ _ rfl (c : Int) 65533 rfl rfl true (by simp; omega) _) ?_; (try simp only [Act.put, List.setIfInBounds_toArray, List.set_cons_zero, List.set_cons_succ])) | (refine wpList_value_d 30 rfl rfl (.int .i32 ((c + 32 : Nat) : Int)) (run_add32 _ _ _ rfl c (by omega) rfl rfl _) ?_; (try simp only [Act.put, List.setIfInBounds_toArray, List.set_cons_zero, List.set_cons_succ]))))
            go_ret2
            exact ⟨_, by rw [H1.out]; rfl, by rw [H2.out]; exact RL.nil _, GG⟩
          · go_wp2_with (first | (with_reducible refine wpList_at ?_; first | (refine wpList_value_d 21 rfl rfl (.pointer (some ⟨g1, 24, none⟩)) (run_runeAt _ _ rfl g1 _ _ 24 hkl rfl rfl _) ?_; (try simp only [Act.put, List.setIfInBounds_toArray, List.set_cons_zero, List.set_cons_succ])) | (refine wpList_value_d 22 rfl rfl (.int .i32 (c : Int)) (run_runeLoad _ rfl g1 24 rfl _ _ 21 _ k1 HG.out) ?_; (try simp only [Act.put, List.setIfInBounds_toArray, List.set_cons_zero, List.set_cons_succ])) | (refine wl_value_d 24 rfl rfl (.bool true) (run_geq_p _ _ _ rfl (c : Int) 65 rfl rfl true (decide_eq_true (by omega)) _) ?_; (try simp only [Act.put, List.setIfInBounds_toArray, List.set_cons_zero, List.set_cons_succ])) | (refine wl_value_d 27 rfl rfl (.bool false) (run_leq_p _ _ _ rfl (c : Int) 90 rfl rfl false (decide_eq_false (by omega)) _) ?_; (try simp only [Act.put, List.setIfInBounds_toArray, List.set_cons_zero, List.set_cons_succ])) | (refine wl_value_d 32 rfl rfl (.bool false) (run_eq_p _ _ _ rfl (c : Int) 45 rfl rfl false (beq_eq_false_iff_ne.2 (by omega)) _) ?_; (try simp only [Act.put, List.setIfInBounds_toArray, List.set_cons_zero, List.set_cons_succ])) | (refine wl_value_d 35 rfl rfl (.bool true) (run_geq_p _ _ _ rfl (c : Int) 48 rfl rfl true (decide_eq_true (by omega)) _) ?_; (try simp only [Act.put, List.setIfInBounds_toArray, List.set_cons_zero, List.set_cons_succ])) | (refine wl_value_d 38 rfl rfl (.bool false) (run_leq_p _ _ _ rfl (c : Int) 57 rfl rfl false (decide_eq_false (by omega)) _) ?_; (try simp only [Act.put, List.setIfInBounds_toArray, List.set_cons_zero, List.set_cons_succ])) | (refine wl_value_d 43 rfl rfl (.bool true) (run_geq_p _ _ _ rfl (c : Int) 97 rfl rfl true (decide_eq_true (by omega)) _) ?_; (try simp only [Act.put, List.setIfInBounds_toArray, List.set_cons_zero, List.set_cons_succ])) | (refine wl_value_d 46 rfl rfl (.bool false) (run_leq_p _ _ _ rfl (c : Int) 122 rfl rfl false (decide_eq_false (by omega)) _) ?_; (try simp only [Act.put, List.setIfInBounds_toArray, List.set_cons_zero, List.set_cons_succ])) | (refine wl_value_d 51 rfl rfl (.bool true) (run_geq_p _ _ _ rfl (c : Int) 161 rfl rfl true (decide_eq_true (by omega)) _) ?_; (try simp only [Act.put, List.setIfInBounds_toArray, List.set_cons_zero, List.set_cons_succ])) | (refine wl_value_d 54 rfl rfl (.bool true) (run_ne_p _ _ _ rfl (c : Int) 65533 rfl rfl true (by simp; omega) _) ?_; (try simp only [Act.put, List.setIfInBounds_toArray, List.set_cons_zero, List.set_cons_succ])) | (refine wpList_value_d 30 rfl rfl (.int .i32 ((c + 32 : Nat) : Int)) (run_add32 _ _ _ rfl c (by omega) rfl rfl _) ?_; (try simp only [Act.put, List.setIfInBounds_toArray, List.set_cons_zero, List.set_cons_succ]))))
            go_ret2
            exact ⟨_, by rw [H1.out]; rfl, by rw [H2.out]; exact RL.nil _, GG⟩
        · have hk2 : k < 24 := by omega
          clear hx HD e24
          rcases hcs with ⟨hca, hcb⟩ | ⟨hca, hcb⟩ | ⟨hca, hcb⟩ | hca | ⟨hca, hcb⟩
          · go_wp2_with (first | (with_reducible refine wpList_at ?_; first | (refine wpList_value_d 21 rfl rfl (.pointer (some ⟨g1, k, none⟩)) (run_runeAt _ _ rfl g1 _ _ k hkl rfl rfl _) ?_; (try simp only [Act.put, List.setIfInBounds_toArray, List.set_cons_zero, List.set_cons_succ])) | (refine wpList_value_d 22 rfl rfl (.int .i32 (c : Int)) (run_runeLoad _ rfl g1 k rfl _ _ 21 _ k1 HG.out) ?_; (try simp only [Act.put, List.setIfInBounds_toArray, List.set_cons_zero, List.set_cons_succ])) | (refine wl_value_d 24 rfl rfl (.bool true) (run_geq_p _ _ _ rfl (c : Int) 65 rfl rfl true (decide_eq_true (by omega)) _) ?_; (try simp only [Act.put, List.setIfInBounds_toArray, List.set_cons_zero, List.set_cons_succ])) | (refine wl_value_d 27 rfl rfl (.bool true) (run_leq_p _ _ _ rfl (c : Int) 90 rfl rfl true (decide_eq_true (by omega)) _) ?_; (try simp only [Act.put, List.setIfInBounds_toArray, List.set_cons_zero, List.set_cons_succ])) | (refine wl_value_d 32 rfl rfl (.bool false) (run_eq_p _ _ _ rfl ((c + 32 : Nat) : Int) 45 rfl rfl false (beq_eq_false_iff_ne.2 (by omega)) _) ?_; (try simp only [Act.put, List.setIfInBounds_toArray, List.set_cons_zero, List.set_cons_succ])) | (refine wl_value_d 35 rfl rfl (.bool true) (run_geq_p _ _ _ rfl ((c + 32 : Nat) : Int) 48 rfl rfl true (decide_eq_true (by omega)) _) ?_; (try simp only [Act.put, List.setIfInBounds_toArray, List.set_cons_zero, List.set_cons_succ])) | (refine wl_value_d 38 rfl rfl (.bool false) (run_leq_p _ _ _ rfl ((c + 32 : Nat) : Int) 57 rfl rfl false (decide_eq_false (by omega)) _) ?_; (try simp only [Act.put, List.setIfInBounds_toArray, List.set_cons_zero, List.set_cons_succ])) | (refine wl_value_d 43 rfl rfl (.bool true) (run_geq_p _ _ _ rfl ((c + 32 : Nat) : Int) 97 rfl rfl true (decide_eq_true (by omega)) _) ?_; (try simp only [Act.put, List.setIfInBounds_toArray, List.set_cons_zero, List.set_cons_succ])) | (refine wl_value_d 46 rfl rfl (.bool true) (run_leq_p _ _ _ rfl ((c + 32 : Nat) : Int) 122 rfl rfl true (decide_eq_true (by omega)) _) ?_; (try simp only [Act.put, List.setIfInBounds_toArray, List.set_cons_zero, List.set_cons_succ])) | (refine wl_value_d 51 rfl rfl (.bool false) (run_geq_p _ _ _ rfl ((c + 32 : Nat) : Int) 161 rfl rfl false (decide_eq_false (by omega)) _) ?_; (try simp only [Act.put, List.setIfInBounds_toArray, List.set_cons_zero, List.set_cons_succ])) | (refine wl_value_d 54 rfl rfl (.bool true) (run_ne_p _ _ _ rfl ((c + 32 : Nat) : Int) 65533 rfl rfl true (by simp; omega) _) ?_; (try simp only [Act.put, List.setIfInBounds_toArray, List.set_cons_zero, List.set_cons_succ])) | (refine wpList_value_d 30 rfl rfl (.int .i32 ((c + 32 : Nat) : Int)) (run_add32 _ _ _ rfl c (by omega) rfl rfl _) ?_; (try simp only [Act.put, List.setIfInBounds_toArray, List.set_cons_zero, List.set_cons_succ])) | (refine wpList_slice1 62 rfl rfl _ rfl ((c + 32 : Nat) : Int) rfl ?_; intro w2 g2 G2 e2 k2; replace HO := HO.gro G2; replace k1 := G2.has k1; replace GG := GG.trans G2; clear G2 e2; (try simp only [Act.put, List.setIfInBounds_toArray, List.set_cons_zero, List.set_cons_succ])) | (refine wpList_stop rfl ?_)))
            constructor
            refine wpList_app1 g1 rfl _ _ rfl _ _ rfl HO g2 (c + 32) k2 rfl (by rw [List.length_map, List.length_take]; omega) k1 ?_
            intro v' w' HO' k1' B'
            replace k1 := k1'
            replace GG := Below.trans GG (B'.mono (by omega))
            clear k1' B' HO k2
            simp only [Act.put, List.setIfInBounds_toArray, List.set_cons_zero, List.set_cons_succ]
            go_wp2
            go_light
            go_roundw
            case rel =>
              refine ⟨k + 1, by omega, by omega, by go_num, ⟨fun r hr => ?_⟩, ?_, GG, k1⟩
              · rw [take_one _ k hkl, HC.out] at hr
                rcases List.mem_append.1 hr with h | h
                · exact HK.out r h
                · simp at h; rw [h]; exact HX.out
              · rw [take_one _ k hkl, List.map_append, HC.out]
                have e : [c].map cntN = [c + 32] := by simp [cntN]; omega
                rw [e]
                exact HO'
            case measure => simp [intOf]; omega
          · go_wp2_with (first | (with_reducible refine wpList_at ?_; first | (refine wpList_value_d 21 rfl rfl (.pointer (some ⟨g1, k, none⟩)) (run_runeAt _ _ rfl g1 _ _ k hkl rfl rfl _) ?_; (try simp only [Act.put, List.setIfInBounds_toArray, List.set_cons_zero, List.set_cons_succ])) | (refine wpList_value_d 22 rfl rfl (.int .i32 (c : Int)) (run_runeLoad _ rfl g1 k rfl _ _ 21 _ k1 HG.out) ?_; (try simp only [Act.put, List.setIfInBounds_toArray, List.set_cons_zero, List.set_cons_succ])) | (refine wl_value_d 24 rfl rfl (.bool true) (run_geq_p _ _ _ rfl (c : Int) 65 rfl rfl true (decide_eq_true (by omega)) _) ?_; (try simp only [Act.put, List.setIfInBounds_toArray, List.set_cons_zero, List.set_cons_succ])) | (refine wl_value_d 27 rfl rfl (.bool false) (run_leq_p _ _ _ rfl (c : Int) 90 rfl rfl false (decide_eq_false (by omega)) _) ?_; (try simp only [Act.put, List.setIfInBounds_toArray, List.set_cons_zero, List.set_cons_succ])) | (refine wl_value_d 32 rfl rfl (.bool false) (run_eq_p _ _ _ rfl (c : Int) 45 rfl rfl false (beq_eq_false_iff_ne.2 (by omega)) _) ?_; (try simp only [Act.put, List.setIfInBounds_toArray, List.set_cons_zero, List.set_cons_succ])) | (refine wl_value_d 35 rfl rfl (.bool true) (run_geq_p _ _ _ rfl (c : Int) 48 rfl rfl true (decide_eq_true (by omega)) _) ?_; (try simp only [Act.put, List.setIfInBounds_toArray, List.set_cons_zero, List.set_cons_succ])) | (refine wl_value_d 38 rfl rfl (.bool false) (run_leq_p _ _ _ rfl (c : Int) 57 rfl rfl false (decide_eq_false (by omega)) _) ?_; (try simp only [Act.put, List.setIfInBounds_toArray, List.set_cons_zero, List.set_cons_succ])) | (refine wl_value_d 43 rfl rfl (.bool true) (run_geq_p _ _ _ rfl (c : Int) 97 rfl rfl true (decide_eq_true (by omega)) _) ?_; (try simp only [Act.put, List.setIfInBounds_toArray, List.set_cons_zero, List.set_cons_succ])) | (refine wl_value_d 46 rfl rfl (.bool true) (run_leq_p _ _ _ rfl (c : Int) 122 rfl rfl true (decide_eq_true (by omega)) _) ?_; (try simp only [Act.put, List.setIfInBounds_toArray, List.set_cons_zero, List.set_cons_succ])) | (refine wl_value_d 51 rfl rfl (.bool false) (run_geq_p _ _ _ rfl (c : Int) 161 rfl rfl false (decide_eq_false (by omega)) _) ?_; (try simp only [Act.put, List.setIfInBounds_toArray, List.set_cons_zero, List.set_cons_succ])) | (refine wl_value_d 54 rfl rfl (.bool true) (run_ne_p _ _ _ rfl (c : Int) 65533 rfl rfl true (by simp; omega) _) ?_; (try simp only [Act.put, List.setIfInBounds_toArray, List.set_cons_zero, List.set_cons_succ])) | (refine wpList_value_d 30 rfl rfl (.int .i32 ((c + 32 : Nat) : Int)) (run_add32 _ _ _ rfl c (by omega) rfl rfl _) ?_; (try simp only [Act.put, List.setIfInBounds_toArray, List.set_cons_zero, List.set_cons_succ])) | (refine wpList_slice1 62 rfl rfl _ rfl (c : Int) rfl ?_; intro w2 g2 G2 e2 k2; replace HO := HO.gro G2; replace k1 := G2.has k1; replace GG := GG.trans G2; clear G2 e2; (try simp only [Act.put, List.setIfInBounds_toArray, List.set_cons_zero, List.set_cons_succ])) | (refine wpList_stop rfl ?_)))
            constructor
            refine wpList_app1 g1 rfl _ _ rfl _ _ rfl HO g2 (c) k2 rfl (by rw [List.length_map, List.length_take]; omega) k1 ?_
            intro v' w' HO' k1' B'
            replace k1 := k1'
            replace GG := Below.trans GG (B'.mono (by omega))
            clear k1' B' HO k2
            simp only [Act.put, List.setIfInBounds_toArray, List.set_cons_zero, List.set_cons_succ]
            go_wp2
            go_light
            go_roundw
            case rel =>
              refine ⟨k + 1, by omega, by omega, by go_num, ⟨fun r hr => ?_⟩, ?_, GG, k1⟩
              · rw [take_one _ k hkl, HC.out] at hr
                rcases List.mem_append.1 hr with h | h
                · exact HK.out r h
                · simp at h; rw [h]; exact HX.out
              · rw [take_one _ k hkl, List.map_append, HC.out]
                have e : [c].map cntN = [c] := by simp [cntN]; omega
                rw [e]
                exact HO'
            case measure => simp [intOf]; omega
          · go_wp2_with (first | (with_reducible refine wpList_at ?_; first | (refine wpList_value_d 21 rfl rfl (.pointer (some ⟨g1, k, none⟩)) (run_runeAt _ _ rfl g1 _ _ k hkl rfl rfl _) ?_; (try simp only [Act.put, List.setIfInBounds_toArray, List.set_cons_zero, List.set_cons_succ])) | (refine wpList_value_d 22 rfl rfl (.int .i32 (c : Int)) (run_runeLoad _ rfl g1 k rfl _ _ 21 _ k1 HG.out) ?_; (try simp only [Act.put, List.setIfInBounds_toArray, List.set_cons_zero, List.set_cons_succ])) | (refine wl_value_d 24 rfl rfl (.bool false) (run_geq_p _ _ _ rfl (c : Int) 65 rfl rfl false (decide_eq_false (by omega)) _) ?_; (try simp only [Act.put, List.setIfInBounds_toArray, List.set_cons_zero, List.set_cons_succ])) | (refine wl_value_d 27 rfl rfl (.bool true) (run_leq_p _ _ _ rfl (c : Int) 90 rfl rfl true (decide_eq_true (by omega)) _) ?_; (try simp only [Act.put, List.setIfInBounds_toArray, List.set_cons_zero, List.set_cons_succ])) | (refine wl_value_d 32 rfl rfl (.bool false) (run_eq_p _ _ _ rfl (c : Int) 45 rfl rfl false (beq_eq_false_iff_ne.2 (by omega)) _) ?_; (try simp only [Act.put, List.setIfInBounds_toArray, List.set_cons_zero, List.set_cons_succ])) | (refine wl_value_d 35 rfl rfl (.bool true) (run_geq_p _ _ _ rfl (c : Int) 48 rfl rfl true (decide_eq_true (by omega)) _) ?_; (try simp only [Act.put, List.setIfInBounds_toArray, List.set_cons_zero, List.set_cons_succ])) | (refine wl_value_d 38 rfl rfl (.bool true) (run_leq_p _ _ _ rfl (c : Int) 57 rfl rfl true (decide_eq_true (by omega)) _) ?_; (try simp only [Act.put, List.setIfInBounds_toArray, List.set_cons_zero, List.set_cons_succ])) | (refine wl_value_d 43 rfl rfl (.bool false) (run_geq_p _ _ _ rfl (c : Int) 97 rfl rfl false (decide_eq_false (by omega)) _) ?_; (try simp only [Act.put, List.setIfInBounds_toArray, List.set_cons_zero, List.set_cons_succ])) | (refine wl_value_d 46 rfl rfl (.bool true) (run_leq_p _ _ _ rfl (c : Int) 122 rfl rfl true (decide_eq_true (by omega)) _) ?_; (try simp only [Act.put, List.setIfInBounds_toArray, List.set_cons_zero, List.set_cons_succ])) | (refine wl_value_d 51 rfl rfl (.bool false) (run_geq_p _ _ _ rfl (c : Int) 161 rfl rfl false (decide_eq_false (by omega)) _) ?_; (try simp only [Act.put, List.setIfInBounds_toArray, List.set_cons_zero, List.set_cons_succ])) | (refine wl_value_d 54 rfl rfl (.bool true) (run_ne_p _ _ _ rfl (c : Int) 65533 rfl rfl true (by simp; omega) _) ?_; (try simp only [Act.put, List.setIfInBounds_toArray, List.set_cons_zero, List.set_cons_succ])) | (refine wpList_value_d 30 rfl rfl (.int .i32 ((c + 32 : Nat) : Int)) (run_add32 _ _ _ rfl c (by omega) rfl rfl _) ?_; (try simp only [Act.put, List.setIfInBounds_toArray, List.set_cons_zero, List.set_cons_succ])) | (refine wpList_slice1 62 rfl rfl _ rfl (c : Int) rfl ?_; intro w2 g2 G2 e2 k2; replace HO := HO.gro G2; replace k1 := G2.has k1; replace GG := GG.trans G2; clear G2 e2; (try simp only [Act.put, List.setIfInBounds_toArray, List.set_cons_zero, List.set_cons_succ])) | (refine wpList_stop rfl ?_)))
            constructor
            refine wpList_app1 g1 rfl _ _ rfl _ _ rfl HO g2 (c) k2 rfl (by rw [List.length_map, List.length_take]; omega) k1 ?_
            intro v' w' HO' k1' B'
            replace k1 := k1'
            replace GG := Below.trans GG (B'.mono (by omega))
            clear k1' B' HO k2
            simp only [Act.put, List.setIfInBounds_toArray, List.set_cons_zero, List.set_cons_succ]
            go_wp2
            go_light
            go_roundw
            case rel =>
              refine ⟨k + 1, by omega, by omega, by go_num, ⟨fun r hr => ?_⟩, ?_, GG, k1⟩
              · rw [take_one _ k hkl, HC.out] at hr
                rcases List.mem_append.1 hr with h | h
                · exact HK.out r h
                · simp at h; rw [h]; exact HX.out
              · rw [take_one _ k hkl, List.map_append, HC.out]
                have e : [c].map cntN = [c] := by simp [cntN]; omega
                rw [e]
                exact HO'
            case measure => simp [intOf]; omega
          · go_wp2_with (first | (with_reducible refine wpList_at ?_; first | (refine wpList_value_d 21 rfl rfl (.pointer (some ⟨g1, k, none⟩)) (run_runeAt _ _ rfl g1 _ _ k hkl rfl rfl _) ?_; (try simp only [Act.put, List.setIfInBounds_toArray, List.set_cons_zero, List.set_cons_succ])) | (refine wpList_value_d 22 rfl rfl (.int .i32 (c : Int)) (run_runeLoad _ rfl g1 k rfl _ _ 21 _ k1 HG.out) ?_; (try simp only [Act.put, List.setIfInBounds_toArray, List.set_cons_zero, List.set_cons_succ])) | (refine wl_value_d 24 rfl rfl (.bool false) (run_geq_p _ _ _ rfl (c : Int) 65 rfl rfl false (decide_eq_false (by omega)) _) ?_; (try simp only [Act.put, List.setIfInBounds_toArray, List.set_cons_zero, List.set_cons_succ])) | (refine wl_value_d 27 rfl rfl (.bool true) (run_leq_p _ _ _ rfl (c : Int) 90 rfl rfl true (decide_eq_true (by omega)) _) ?_; (try simp only [Act.put, List.setIfInBounds_toArray, List.set_cons_zero, List.set_cons_succ])) | (refine wl_value_d 32 rfl rfl (.bool true) (run_eq_p _ _ _ rfl (c : Int) 45 rfl rfl true (beq_iff_eq.2 (by omega)) _) ?_; (try simp only [Act.put, List.setIfInBounds_toArray, List.set_cons_zero, List.set_cons_succ])) | (refine wl_value_d 35 rfl rfl (.bool false) (run_geq_p _ _ _ rfl (c : Int) 48 rfl rfl false (decide_eq_false (by omega)) _) ?_; (try simp only [Act.put, List.setIfInBounds_toArray, List.set_cons_zero, List.set_cons_succ])) | (refine wl_value_d 38 rfl rfl (.bool true) (run_leq_p _ _ _ rfl (c : Int) 57 rfl rfl true (decide_eq_true (by omega)) _) ?_; (try simp only [Act.put, List.setIfInBounds_toArray, List.set_cons_zero, List.set_cons_succ])) | (refine wl_value_d 43 rfl rfl (.bool false) (run_geq_p _ _ _ rfl (c : Int) 97 rfl rfl false (decide_eq_false (by omega)) _) ?_; (try simp only [Act.put, List.setIfInBounds_toArray, List.set_cons_zero, List.set_cons_succ])) | (refine wl_value_d 46 rfl rfl (.bool true) (run_leq_p _ _ _ rfl (c : Int) 122 rfl rfl true (decide_eq_true (by omega)) _) ?_; (try simp only [Act.put, List.setIfInBounds_toArray, List.set_cons_zero, List.set_cons_succ])) | (refine wl_value_d 51 rfl rfl (.bool false) (run_geq_p _ _ _ rfl (c : Int) 161 rfl rfl false (decide_eq_false (by omega)) _) ?_; (try simp only [Act.put, List.setIfInBounds_toArray, List.set_cons_zero, List.set_cons_succ])) | (refine wl_value_d 54 rfl rfl (.bool true) (run_ne_p _ _ _ rfl (c : Int) 65533 rfl rfl true (by simp; omega) _) ?_; (try simp only [Act.put, List.setIfInBounds_toArray, List.set_cons_zero, List.set_cons_succ])) | (refine wpList_value_d 30 rfl rfl (.int .i32 ((c + 32 : Nat) : Int)) (run_add32 _ _ _ rfl c (by omega) rfl rfl _) ?_; (try simp only [Act.put, List.setIfInBounds_toArray, List.set_cons_zero, List.set_cons_succ])) | (refine wpList_slice1 62 rfl rfl _ rfl (c : Int) rfl ?_; intro w2 g2 G2 e2 k2; replace HO := HO.gro G2; replace k1 := G2.has k1; replace GG := GG.trans G2; clear G2 e2; (try simp only [Act.put, List.setIfInBounds_toArray, List.set_cons_zero, List.set_cons_succ])) | (refine wpList_stop rfl ?_)))
            constructor
            refine wpList_app1 g1 rfl _ _ rfl _ _ rfl HO g2 (c) k2 rfl (by rw [List.length_map, List.length_take]; omega) k1 ?_
            intro v' w' HO' k1' B'
            replace k1 := k1'
            replace GG := Below.trans GG (B'.mono (by omega))
            clear k1' B' HO k2
            simp only [Act.put, List.setIfInBounds_toArray, List.set_cons_zero, List.set_cons_succ]
            go_wp2
            go_light
            go_roundw
            case rel =>
              refine ⟨k + 1, by omega, by omega, by go_num, ⟨fun r hr => ?_⟩, ?_, GG, k1⟩
              · rw [take_one _ k hkl, HC.out] at hr
                rcases List.mem_append.1 hr with h | h
                · exact HK.out r h
                · simp at h; rw [h]; exact HX.out
              · rw [take_one _ k hkl, List.map_append, HC.out]
                have e : [c].map cntN = [c] := by simp [cntN]; omega
                rw [e]
                exact HO'
            case measure => simp [intOf]; omega
          · go_wp2_with (first | (with_reducible refine wpList_at ?_; first | (refine wpList_value_d 21 rfl rfl (.pointer (some ⟨g1, k, none⟩)) (run_runeAt _ _ rfl g1 _ _ k hkl rfl rfl _) ?_; (try simp only [Act.put, List.setIfInBounds_toArray, List.set_cons_zero, List.set_cons_succ])) | (refine wpList_value_d 22 rfl rfl (.int .i32 (c : Int)) (run_runeLoad _ rfl g1 k rfl _ _ 21 _ k1 HG.out) ?_; (try simp only [Act.put, List.setIfInBounds_toArray, List.set_cons_zero, List.set_cons_succ])) | (refine wl_value_d 24 rfl rfl (.bool true) (run_geq_p _ _ _ rfl (c : Int) 65 rfl rfl true (decide_eq_true (by omega)) _) ?_; (try simp only [Act.put, List.setIfInBounds_toArray, List.set_cons_zero, List.set_cons_succ])) | (refine wl_value_d 27 rfl rfl (.bool false) (run_leq_p _ _ _ rfl (c : Int) 90 rfl rfl false (decide_eq_false (by omega)) _) ?_; (try simp only [Act.put, List.setIfInBounds_toArray, List.set_cons_zero, List.set_cons_succ])) | (refine wl_value_d 32 rfl rfl (.bool false) (run_eq_p _ _ _ rfl (c : Int) 45 rfl rfl false (beq_eq_false_iff_ne.2 (by omega)) _) ?_; (try simp only [Act.put, List.setIfInBounds_toArray, List.set_cons_zero, List.set_cons_succ])) | (refine wl_value_d 35 rfl rfl (.bool true) (run_geq_p _ _ _ rfl (c : Int) 48 rfl rfl true (decide_eq_true (by omega)) _) ?_; (try simp only [Act.put, List.setIfInBounds_toArray, List.set_cons_zero, List.set_cons_succ])) | (refine wl_value_d 38 rfl rfl (.bool false) (run_leq_p _ _ _ rfl (c : Int) 57 rfl rfl false (decide_eq_false (by omega)) _) ?_; (try simp only [Act.put, List.setIfInBounds_toArray, List.set_cons_zero, List.set_cons_succ])) | (refine wl_value_d 43 rfl rfl (.bool true) (run_geq_p _ _ _ rfl (c : Int) 97 rfl rfl true (decide_eq_true (by omega)) _) ?_; (try simp only [Act.put, List.setIfInBounds_toArray, List.set_cons_zero, List.set_cons_succ])) | (refine wl_value_d 46 rfl rfl (.bool false) (run_leq_p _ _ _ rfl (c : Int) 122 rfl rfl false (decide_eq_false (by omega)) _) ?_; (try simp only [Act.put, List.setIfInBounds_toArray, List.set_cons_zero, List.set_cons_succ])) | (refine wl_value_d 51 rfl rfl (.bool true) (run_geq_p _ _ _ rfl (c : Int) 161 rfl rfl true (decide_eq_true (by omega)) _) ?_; (try simp only [Act.put, List.setIfInBounds_toArray, List.set_cons_zero, List.set_cons_succ])) | (refine wl_value_d 54 rfl rfl (.bool true) (run_ne_p _ _ _ rfl (c : Int) 65533 rfl rfl true (by simp; omega) _) ?_; (try simp only [Act.put, List.setIfInBounds_toArray, List.set_cons_zero, List.set_cons_succ])) | (refine wpList_value_d 30 rfl rfl (.int .i32 ((c + 32 : Nat) : Int)) (run_add32 _ _ _ rfl c (by omega) rfl rfl _) ?_; (try simp only [Act.put, List.setIfInBounds_toArray, List.set_cons_zero, List.set_cons_succ])) | (refine wpList_slice1 62 rfl rfl _ rfl (c : Int) rfl ?_; intro w2 g2 G2 e2 k2; replace HO := HO.gro G2; replace k1 := G2.has k1; replace GG := GG.trans G2; clear G2 e2; (try simp only [Act.put, List.setIfInBounds_toArray, List.set_cons_zero, List.set_cons_succ])) | (refine wpList_stop rfl ?_)))
            constructor
            refine wpList_app1 g1 rfl _ _ rfl _ _ rfl HO g2 (c) k2 rfl (by rw [List.length_map, List.length_take]; omega) k1 ?_
            intro v' w' HO' k1' B'
            replace k1 := k1'
            replace GG := Below.trans GG (B'.mono (by omega))
            clear k1' B' HO k2
            simp only [Act.put, List.setIfInBounds_toArray, List.set_cons_zero, List.set_cons_succ]
            go_wp2
            go_light
            go_roundw
            case rel =>
              refine ⟨k + 1, by omega, by omega, by go_num, ⟨fun r hr => ?_⟩, ?_, GG, k1⟩
              · rw [take_one _ k hkl, HC.out] at hr
                rcases List.mem_append.1 hr with h | h
                · exact HK.out r h
                · simp at h; rw [h]; exact HX.out
              · rw [take_one _ k hkl, List.map_append, HC.out]
                have e : [c].map cntN = [c] := by simp [cntN]; omega
                rw [e]
                exact HO'
            case measure => simp [intOf]; omega
theorem refrunes_any (s : ByteArray) (w : World) : Calls Try.prog 10 #[.string s] w (RunesP w s) := by
  by_cases h : s.size = 0
  · have := size_zero h
    subst this
    exact refrunes_empty w
  · exact refrunes_full s h w
end Go.Proofs.Ytcgpodmipgnhjaa
