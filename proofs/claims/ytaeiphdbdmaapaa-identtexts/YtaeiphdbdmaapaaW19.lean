/- Walks: the document's writing. -/
import Derived.Test.YtaeiphdbdmaapaaW15
import Derived.Test.YtaeiphdbdmaapaaW17
import Derived.Test.YtaeiphdbdmaapaaW18a
namespace Go.Proofs.Ytaeiphdbdmaapaa
open Go.RowKit

theorem wq_valueC {P : Program} {ops : Array Oper} {o : Oper} {rest : List Oper} {a : Act} {C : World → Prop} {Q : Act → Prop} (hw : Region.wanted o (yielded ops a.tmps) = true) (v : Value) (he : ∀ w, C w → (execOp a.eval o).run P w = .ok (.value v) w) (h : wpQuiet P ops C Q rest (a.put o.dst v)) : wpQuiet P ops C Q (o :: rest) a :=
  BigFrame.wpQuiet_want hw fun _ hK => ⟨v, fun w hw => by unfold Oper.quietAt; rw [he w hw]; exact ⟨rfl, rfl⟩, hK _ h⟩
def oneB (c : Nat) : ByteArray := { data := #[UInt8.ofNat c] }
theorem sliceAt_hex (w : World) : ∀ q : Nat, q < 16 → (Instr.sliceAt 9 (.string { data := #[48, 49, 50, 51, 52, 53, 54, 55, 56, 57, 97, 98, 99, 100, 101, 102] }) (some (.int .u8 (q : Int))) (some (.int .u8 ((q + 1 : Nat) : Int))) none).run Try.prog w = .ok (.string (oneB (hexd q))) w
  | 0, _ => by kernel_rfl
  | 1, _ => by kernel_rfl
  | 2, _ => by kernel_rfl
  | 3, _ => by kernel_rfl
  | 4, _ => by kernel_rfl
  | 5, _ => by kernel_rfl
  | 6, _ => by kernel_rfl
  | 7, _ => by kernel_rfl
  | 8, _ => by kernel_rfl
  | 9, _ => by kernel_rfl
  | 10, _ => by kernel_rfl
  | 11, _ => by kernel_rfl
  | 12, _ => by kernel_rfl
  | 13, _ => by kernel_rfl
  | 14, _ => by kernel_rfl
  | 15, _ => by kernel_rfl
  | q + 16, h => by omega
theorem run_slice_hex {o : Oper} {A : Act} (x y z : Operand) (ho : o.op = .slice 9 x (some y) (some z) none) (q : Nat) (hq : q < 16) (hx : A.eval x = .string { data := #[48, 49, 50, 51, 52, 53, 54, 55, 56, 57, 97, 98, 99, 100, 101, 102] }) (hy : A.eval y = .int .u8 (q : Int)) (hz : A.eval z = .int .u8 ((q + 1 : Nat) : Int)) (w : World) : (execOp A.eval o).run Try.prog w = .ok (.value (.string (oneB (hexd q)))) w := by
  unfold execOp
  simp only [ho, hx, Option.map, hy, hz, Sem.run_bind, sliceAt_hex w q hq, Result.andThen_ok, Sem.run_pure]
theorem run_quo16 {o : Oper} {A : Act} (x y : Operand) (t2 : TypeId) (ho : o.op = .binOp .quo 5 x y t2) (c : Nat) (hc : c < 256) (hx : A.eval x = .int .u8 (c : Int)) (hy : A.eval y = .int .u8 16) (w : World) : (execOp A.eval o).run Try.prog w = .ok (.value (.int .u8 ((c / 16 : Nat) : Int))) w := by
  refine run_binop .quo 5 x y t2 ho _ _ _ hx hy (by simp [eqGuard]) ?_
  have e : Int.tdiv (c : Int) 16 = ((c / 16 : Nat) : Int) := by
    rw [Int.tdiv_eq_ediv_of_nonneg (by omega)]; omega
  have e2 := wrap8 (c / 16) (by omega)
  generalize ((c / 16 : Nat) : Int) = q at *
  simp [go_sem, e, e2]
theorem run_rem16 {o : Oper} {A : Act} (x y : Operand) (t2 : TypeId) (ho : o.op = .binOp .rem 5 x y t2) (c : Nat) (hc : c < 256) (hx : A.eval x = .int .u8 (c : Int)) (hy : A.eval y = .int .u8 16) (w : World) : (execOp A.eval o).run Try.prog w = .ok (.value (.int .u8 ((c % 16 : Nat) : Int))) w := by
  refine run_binop .rem 5 x y t2 ho _ _ _ hx hy (by simp [eqGuard]) ?_
  have e : Int.tmod (c : Int) 16 = ((c % 16 : Nat) : Int) := by
    rw [Int.tmod_eq_emod_of_nonneg (by omega)]; omega
  generalize ((c % 16 : Nat) : Int) = q at *
  simp [go_sem, e]
theorem run_add1 {o : Oper} {A : Act} (x y : Operand) (t2 : TypeId) (ho : o.op = .binOp .add 5 x y t2) (c : Nat) (hc : c < 16) (hx : A.eval x = .int .u8 (c : Int)) (hy : A.eval y = .int .u8 1) (w : World) : (execOp A.eval o).run Try.prog w = .ok (.value (.int .u8 ((c + 1 : Nat) : Int))) w := by
  refine run_binop .add 5 x y t2 ho _ _ _ hx hy (by simp [eqGuard]) ?_
  have e : (c : Int) + 1 = ((c + 1 : Nat) : Int) := by omega
  have e2 := wrap8 (c + 1) (by omega)
  generalize ((c + 1 : Nat) : Int) = q at *
  simp [go_sem, e, e2]
theorem run_cat {o : Oper} {A : Act} (x y : Operand) (t2 : TypeId) (ho : o.op = .binOp .add 9 x y t2) (a b : ByteArray) (h : a.size + b.size ≤ 9223372036854775807) (hx : A.eval x = .string a) (hy : A.eval y = .string b) (w : World) : (execOp A.eval o).run Try.prog w = .ok (.value (.string (a ++ b))) w := by
  refine run_binop .add 9 x y t2 ho _ _ _ hx hy (by simp [eqGuard]) ?_
  simp [go_sem]
  exact h
theorem run_move {P : Program} {o : Oper} {A : Act} (x : Operand) (ho : o.op = .move x) (v : Value) (hx : A.eval x = v) (w : World) : (execOp A.eval o).run P w = .ok (.value v) w := by
  unfold execOp
  simp only [ho, hx, Sem.run_pure]
theorem run_assign {P : Program} {o : Oper} {A : Act} (x : Operand) (ho : o.op = .assign x) (v : Value) (hx : A.eval x = v) (w : World) : (execOp A.eval o).run P w = .ok (.value v) w := by
  unfold execOp
  simp only [ho, hx, Sem.run_pure]
/-- The first 2 k signs. -/
def prK (n k : Nat) : ByteArray := { data := ((List.range (2 * k)).map fun j => UInt8.ofNat (sgn n j)).toArray }
theorem prK_size (n k : Nat) : (prK n k).size = 2 * k := by show (prK n k).data.size = _; simp [prK]
theorem prK_full (n : Nat) : prK n 16 = printB n := by
  have h : (prK n 16).data = (printB n).data := by rw [printB_data]; rfl
  have h2 : ∀ a b : ByteArray, a.data = b.data → a = b := fun a b h => by cases a; cases b; simp at h; rw [h]
  exact h2 _ _ h
theorem prK_step (n k : Nat) : prK n k ++ (oneB (hexd (byt n k / 16)) ++ oneB (hexd (byt n k % 16))) = prK n (k + 1) := by
  have h2 : ∀ a b : ByteArray, a.data = b.data → a = b := fun a b h => by cases a; cases b; simp at h; rw [h]
  apply h2
  rw [ByteArray.data_append, ByteArray.data_append]
  have e : 2 * (k + 1) = 2 * k + 1 + 1 := by omega
  have s1 : sgn n (2 * k) = hexd (byt n k / 16) := by
    unfold sgn nib
    rw [if_pos (by omega), show 2 * k / 2 = k by omega]
  have s2 : sgn n (2 * k + 1) = hexd (byt n k % 16) := by
    unfold sgn nib
    rw [if_neg (by omega), show (2 * k + 1) / 2 = k by omega]
  unfold prK oneB
  simp only [e, List.range_succ, List.map_append, List.map_cons, List.map_nil, s1, s2]
  simp

theorem oneB_size (c : Nat) : (oneB c).size = 1 := rfl
set_option maxHeartbeats 1600000 in
theorem refprint_any (n : Nat) (w : World) : Calls Try.prog 27 #[idV n] w fun e w' => e = .returned (.string (printB n)) ∧ Gro w w' := by
  have GG : Gro w w := Gro.refl w
  rw [← prK_full n]
  unfold idV
  go_enter Try.func27, Try.ntmps27
  go_wp2_with (first | (with_reducible refine wpList_at ?_; first | (refine wpList_box_d 1 rfl rfl 23 _ rfl _ rfl ?_; intro w1 g1 G1 e1 k1; have b1 := size_base GG e1; replace GG := GG.trans G1; clear G1 e1; (try simp only [Act.put, List.setIfInBounds_toArray, List.set_cons_zero, List.set_cons_succ]))))
  go_loopw [4, 5] (fun t i wr => ∃ k : Nat, k ≤ 16 ∧ t = .string (prK n k) ∧ i = .int .i64 k ∧ Gro w wr ∧ wr.heap[g1]? = some (.cells (idA n) 23 (0, 0))) (fun _ i _ => 16 - (intOf i).toNat)
  case atStart => exact ⟨0, by omega, rfl, rfl, GG, k1⟩
  case round =>
    rename_i wr
    clear k1 GG
    obtain ⟨k, hk, rfl, rfl, GG, k1⟩ := hrel
    cases hlt : decide ((k : Int) < 16)
    · have e16 : k = 16 := by simp at hlt; omega
      subst e16
      go_wp2
      go_ret
      exact ⟨rfl, GG⟩
    · have hk16 : k < 16 := by simp at hlt; omega
      have HS : Hid (prK n k ++ (oneB (hexd (byt n k / 16)) ++ oneB (hexd (byt n k % 16))) = prK n (k + 1)) := prK_step n k
      have HG : Hid ((idA n)[k]? = some (.int .u8 (byt n k : Int))) := idA_get n k hk16
      have hX := byt_lt n k
      have hz1 : Hid ((oneB (hexd (byt n k / 16))).size + (oneB (hexd (byt n k % 16))).size ≤ 9223372036854775807) := by show _ ≤ _; rw [oneB_size, oneB_size]; omega
      have hz2 : Hid ((prK n k).size + (oneB (hexd (byt n k / 16)) ++ oneB (hexd (byt n k % 16))).size ≤ 9223372036854775807) := by
        show _ ≤ _
        rw [ByteArray.size_append, oneB_size, oneB_size, prK_size]; omega
      generalize byt n k = X at *
      go_wp2_with fail
      try simp only [Act.put, List.setIfInBounds_toArray, List.set_cons_zero, List.set_cons_succ]
      refine wp_region_gro follows (by kernel_rfl) ?_
      (go_big_quiet_want; go_big_quiet_op; first | go_big_quiet_on | (refine ⟨_, fun _ _ => rfl, ?_⟩; go_big_quiet_on))
      (go_big_quiet_want; go_big_quiet_op; first | go_big_quiet_on | (refine ⟨_, fun _ _ => rfl, ?_⟩; go_big_quiet_on))
      (go_big_quiet_want; go_big_quiet_op; first | go_big_quiet_on | (refine ⟨_, fun _ _ => rfl, ?_⟩; go_big_quiet_on))
      refine wq_value rfl (.pointer (some ⟨g1, k, none⟩)) (fun w => run_byteAt _ _ rfl g1 k hk16 rfl rfl w) ?_; simp only [Act.put, List.setIfInBounds_toArray, List.set_cons_zero, List.set_cons_succ]
      refine wq_valueC rfl (.int .u8 (X : Int)) (fun w hw => run_byteLoad _ rfl g1 k rfl w _ 23 _ (Gro.has hw k1) HG.out) ?_; simp only [Act.put, List.setIfInBounds_toArray, List.set_cons_zero, List.set_cons_succ]
      refine wq_value rfl (.int .u8 ((X / 16 : Nat) : Int)) (fun w => run_quo16 _ _ _ rfl X hX rfl rfl w) ?_; simp only [Act.put, List.setIfInBounds_toArray, List.set_cons_zero, List.set_cons_succ]
      (go_big_quiet_want; go_big_quiet_op; first | go_big_quiet_on | (refine ⟨_, fun _ _ => rfl, ?_⟩; go_big_quiet_on))
      refine wq_value rfl (.pointer (some ⟨g1, k, none⟩)) (fun w => run_byteAt _ _ rfl g1 k hk16 rfl rfl w) ?_; simp only [Act.put, List.setIfInBounds_toArray, List.set_cons_zero, List.set_cons_succ]
      refine wq_valueC rfl (.int .u8 (X : Int)) (fun w hw => run_byteLoad _ rfl g1 k rfl w _ 23 _ (Gro.has hw k1) HG.out) ?_; simp only [Act.put, List.setIfInBounds_toArray, List.set_cons_zero, List.set_cons_succ]
      refine wq_value rfl (.int .u8 ((X / 16 : Nat) : Int)) (fun w => run_quo16 _ _ _ rfl X hX rfl rfl w) ?_; simp only [Act.put, List.setIfInBounds_toArray, List.set_cons_zero, List.set_cons_succ]
      refine wq_value rfl (.int .u8 ((X / 16 + 1 : Nat) : Int)) (fun w => run_add1 _ _ _ rfl (X / 16) (by omega) rfl rfl w) ?_; simp only [Act.put, List.setIfInBounds_toArray, List.set_cons_zero, List.set_cons_succ]
      refine wq_value rfl (.string (oneB (hexd (X / 16)))) (fun w => run_slice_hex _ _ _ rfl (X / 16) (by omega) rfl rfl rfl w) ?_; simp only [Act.put, List.setIfInBounds_toArray, List.set_cons_zero, List.set_cons_succ]
      (go_big_quiet_want; go_big_quiet_op; first | go_big_quiet_on | (refine ⟨_, fun _ _ => rfl, ?_⟩; go_big_quiet_on))
      (go_big_quiet_want; go_big_quiet_op; first | go_big_quiet_on | (refine ⟨_, fun _ _ => rfl, ?_⟩; go_big_quiet_on))
      refine wq_value rfl (.pointer (some ⟨g1, k, none⟩)) (fun w => run_byteAt _ _ rfl g1 k hk16 rfl rfl w) ?_; simp only [Act.put, List.setIfInBounds_toArray, List.set_cons_zero, List.set_cons_succ]
      refine wq_valueC rfl (.int .u8 (X : Int)) (fun w hw => run_byteLoad _ rfl g1 k rfl w _ 23 _ (Gro.has hw k1) HG.out) ?_; simp only [Act.put, List.setIfInBounds_toArray, List.set_cons_zero, List.set_cons_succ]
      refine wq_value rfl (.int .u8 ((X % 16 : Nat) : Int)) (fun w => run_rem16 _ _ _ rfl X hX rfl rfl w) ?_; simp only [Act.put, List.setIfInBounds_toArray, List.set_cons_zero, List.set_cons_succ]
      (go_big_quiet_want; go_big_quiet_op; first | go_big_quiet_on | (refine ⟨_, fun _ _ => rfl, ?_⟩; go_big_quiet_on))
      refine wq_value rfl (.pointer (some ⟨g1, k, none⟩)) (fun w => run_byteAt _ _ rfl g1 k hk16 rfl rfl w) ?_; simp only [Act.put, List.setIfInBounds_toArray, List.set_cons_zero, List.set_cons_succ]
      refine wq_valueC rfl (.int .u8 (X : Int)) (fun w hw => run_byteLoad _ rfl g1 k rfl w _ 23 _ (Gro.has hw k1) HG.out) ?_; simp only [Act.put, List.setIfInBounds_toArray, List.set_cons_zero, List.set_cons_succ]
      refine wq_value rfl (.int .u8 ((X % 16 : Nat) : Int)) (fun w => run_rem16 _ _ _ rfl X hX rfl rfl w) ?_; simp only [Act.put, List.setIfInBounds_toArray, List.set_cons_zero, List.set_cons_succ]
      refine wq_value rfl (.int .u8 ((X % 16 + 1 : Nat) : Int)) (fun w => run_add1 _ _ _ rfl (X % 16) (by omega) rfl rfl w) ?_; simp only [Act.put, List.setIfInBounds_toArray, List.set_cons_zero, List.set_cons_succ]
      refine wq_value rfl (.string (oneB (hexd (X % 16)))) (fun w => run_slice_hex _ _ _ rfl (X % 16) (by omega) rfl rfl rfl w) ?_; simp only [Act.put, List.setIfInBounds_toArray, List.set_cons_zero, List.set_cons_succ]
      refine wq_value rfl (.string (oneB (hexd (X / 16)) ++ oneB (hexd (X % 16)))) (fun w => run_cat _ _ _ rfl _ _ hz1.out rfl rfl w) ?_; simp only [Act.put, List.setIfInBounds_toArray, List.set_cons_zero, List.set_cons_succ]
      refine wq_value rfl (.string (prK n k ++ (oneB (hexd (X / 16)) ++ oneB (hexd (X % 16))))) (fun w => run_cat _ _ _ rfl _ _ hz2.out rfl rfl w) ?_; simp only [Act.put, List.setIfInBounds_toArray, List.set_cons_zero, List.set_cons_succ]
      (go_big_quiet_want; go_big_quiet_op; first | go_big_quiet_on | (refine ⟨_, fun _ _ => rfl, ?_⟩; go_big_quiet_on))
      refine wpQuiet_nil ?_
      intro wq Gq0
      have Gq : Gro _ wq := Gq0
      clear Gq0
      replace k1 := Gq.has k1
      replace GG := GG.trans Gq
      clear Gq
      rw [HS.out]
      go_wp2
      go_light
      go_roundw
      case rel => exact ⟨k + 1, by omega, rfl, by go_num, GG, k1⟩
      case measure => simp [intOf]; omega
end Go.Proofs.Ytaeiphdbdmaapaa
