/- Wire: how many bits a number has; whether a place is in a row. -/
import Derived.Test.YtgfnjekpafempaaEBase
import Derived.Test.YtgfnjekpafempaaEB2
namespace Go.Proofs.Ytgfnjekpafempaa
open Go.RowKit
theorem bT : NumT Try.prog 30 5 .u8 1 := ⟨Try.underlying30, Try.underlying5, by
  have h : (Try.prog.info? 5).map (fun i => (i.zero, i.size, i.bytes)) = some (some (.int .u8 0), 1, 1) := by kernel_rfl
  cases hi : Try.prog.info? 5 with
  | none => rw [hi] at h; cases h
  | some i =>
    rw [hi] at h
    simp only [Option.map_some, Option.some.injEq, Prod.mk.injEq] at h
    exact ⟨i, rfl, h.1, h.2.1, h.2.2⟩⟩
theorem uT : NumT Try.prog 135 75 .u64 8 := ⟨Try.underlying135, Try.underlying75, by
  have h : (Try.prog.info? 75).map (fun i => (i.zero, i.size, i.bytes)) = some (some (.int .u64 0), 1, 8) := by kernel_rfl
  cases hi : Try.prog.info? 75 with
  | none => rw [hi] at h; cases h
  | some i =>
    rw [hi] at h
    simp only [Option.map_some, Option.some.injEq, Prod.mk.injEq] at h
    exact ⟨i, rfl, h.1, h.2.1, h.2.2⟩⟩
def tab8 : List UInt8 := [0] ++ List.replicate 1 1 ++ List.replicate 2 2 ++ List.replicate 4 3 ++ List.replicate 8 4 ++ List.replicate 16 5 ++ List.replicate 32 6 ++ List.replicate 64 7 ++ List.replicate 128 8
def t8 (z : Int) : Nat := (tab8[z.toNat]?.getD 0).toNat
theorem tab8_len : tab8.length = 256 := by decide +kernel
theorem t8_of (z : Int) : t8 (z % 256) ≤ 8 ∧ (t8 (z % 256) + 7) / 8 = if z % 256 = 0 then 0 else 1 := by
  have h : (List.range 256).all (fun v => decide ((tab8[v]?.getD 0).toNat ≤ 8) && ((((tab8[v]?.getD 0).toNat + 7) / 8) == (if v = 0 then 0 else 1))) = true := by decide +kernel
  have := List.all_eq_true.1 h (z % 256).toNat (List.mem_range.2 (by omega))
  simp only [Bool.and_eq_true, decide_eq_true_eq, beq_iff_eq] at this
  refine ⟨this.1, ?_⟩
  have e : ((z % 256).toNat = 0) = (z % 256 = 0) := by
    apply propext
    omega
  unfold t8
  rw [this.2]
  simp only [e]
theorem run_conv8 {o : Oper} {A : Act} (x : Operand) (ho : o.op = .convert 75 5 x) (z : Int) (hx : A.eval x = .int .u64 z) (w : World) : (execOp A.eval o).run Try.prog w = .ok (.value (.int .u8 (z % 256))) w := by
  unfold execOp
  simp only [ho, hx]
  simp [go_sem]
  simp [IntKind.wrap, IntKind.bits, IntKind.signed]
theorem run_tab {o : Oper} {A : Act} (y : Operand) (s : ByteArray) (ho : o.op = .index 9 (.const (.string s)) y) (hs : s.data.toList = tab8) (z : Int) (hy : A.eval y = .int .u8 (z % 256)) (w : World) : (execOp A.eval o).run Try.prog w = .ok (.value (.int .u8 (t8 (z % 256) : Int))) w := by
  have hl := tab8_len
  have h1 : s[(z % 256).toNat]? = tab8[(z % 256).toNat]? := by
    cases s with
    | mk d =>
      show (if h : _ < d.size then some d[(z % 256).toNat] else none) = _
      simp only at hs
      rw [← hs]
      by_cases h : (z % 256).toNat < d.size
      · simp [h]
      · simp [h]
  have h2 : (z % 256).toNat < tab8.length := by omega
  have h : (Instr.index 9 (.string s) (.int .u8 (z % 256))).run Try.prog w = .ok (.int .u8 (t8 (z % 256) : Int)) w := by
    simp only [Instr.index, Sem.run_bind, asIntOf, Sem.run_pure, Result.andThen_ok, run_underlying Try.underlying9, if_pos (show 0 ≤ z % 256 by omega), h1]
    unfold t8
    rw [List.getElem?_eq_getElem h2]
    rfl
  unfold execOp
  have hc : A.eval (.const (.string s)) = .string s := rfl
  simp only [ho, hy, hc, Sem.run_bind, h, Result.andThen_ok, Sem.run_pure]
theorem wrap_add (k a : Nat) (hk : k ≤ 56) (ha : a ≤ 8) : wrap64 ((k : Int) + wrap64 (a : Int)) = ((k + a : Nat) : Int) := by
  unfold wrap64
  omega
theorem wrap_two (a : Nat) (ha : a ≤ 8) : wrap64 (wrap64 (a : Int)) = ((0 + a : Nat) : Int) := by
  unfold wrap64
  omega
theorem nb_k (n k : Nat) (z : Int) (hk : 8 * k ≤ 56) (h : nb n = k + if z % 256 = 0 then 0 else 1) : (8 * k + t8 (z % 256)) ≤ 64 ∧ ((8 * k + t8 (z % 256)) + 7) / 8 = nb n := by
  have := t8_of z
  rw [h]
  omega
theorem nb_w7 (n : Nat) (x : Int) (hx : x = (n : Int)) (hn : n < lim) (h1 : 4294967296 ≤ x) (h2 : 65536 ≤ x / 4294967296) (h3 : 256 ≤ x / 4294967296 / 65536) : nb n = 7 + if (x / 4294967296 / 65536 / 256) % 256 = 0 then 0 else 1 := by
  subst hx
  unfold lim at hn
  unfold nb
  (repeat' split) <;> omega
theorem nb_w6 (n : Nat) (x : Int) (hx : x = (n : Int)) (hn : n < lim) (h1 : 4294967296 ≤ x) (h2 : 65536 ≤ x / 4294967296) (h3 : x / 4294967296 / 65536 < 256) : nb n = 6 + if (x / 4294967296 / 65536) % 256 = 0 then 0 else 1 := by
  subst hx
  unfold lim at hn
  unfold nb
  (repeat' split) <;> omega
theorem nb_w5 (n : Nat) (x : Int) (hx : x = (n : Int)) (hn : n < lim) (h1 : 4294967296 ≤ x) (h2 : x / 4294967296 < 65536) (h3 : 256 ≤ x / 4294967296) : nb n = 5 + if (x / 4294967296 / 256) % 256 = 0 then 0 else 1 := by
  subst hx
  unfold lim at hn
  unfold nb
  (repeat' split) <;> omega
theorem nb_w4 (n : Nat) (x : Int) (hx : x = (n : Int)) (hn : n < lim) (h1 : 4294967296 ≤ x) (h2 : x / 4294967296 < 65536) (h3 : x / 4294967296 < 256) : nb n = 4 + if (x / 4294967296) % 256 = 0 then 0 else 1 := by
  subst hx
  unfold lim at hn
  unfold nb
  (repeat' split) <;> omega
theorem nb_w3 (n : Nat) (x : Int) (hx : x = (n : Int)) (hn : n < lim) (h1 : x < 4294967296) (h2 : 65536 ≤ x) (h3 : 256 ≤ x / 65536) : nb n = 3 + if (x / 65536 / 256) % 256 = 0 then 0 else 1 := by
  subst hx
  unfold lim at hn
  unfold nb
  (repeat' split) <;> omega
theorem nb_w2 (n : Nat) (x : Int) (hx : x = (n : Int)) (hn : n < lim) (h1 : x < 4294967296) (h2 : 65536 ≤ x) (h3 : x / 65536 < 256) : nb n = 2 + if (x / 65536) % 256 = 0 then 0 else 1 := by
  subst hx
  unfold lim at hn
  unfold nb
  (repeat' split) <;> omega
theorem nb_w1 (n : Nat) (x : Int) (hx : x = (n : Int)) (hn : n < lim) (h1 : x < 4294967296) (h2 : x < 65536) (h3 : 256 ≤ x) : nb n = 1 + if (x / 256) % 256 = 0 then 0 else 1 := by
  subst hx
  unfold lim at hn
  unfold nb
  (repeat' split) <;> omega
theorem nb_w0 (n : Nat) (x : Int) (hx : x = (n : Int)) (hn : n < lim) (h1 : x < 4294967296) (h2 : x < 65536) (h3 : x < 256) : nb n = 0 + if (x) % 256 = 0 then 0 else 1 := by
  subst hx
  unfold lim at hn
  unfold nb
  (repeat' split) <;> omega
set_option maxRecDepth 1000000 in
set_option maxHeartbeats 4000000 in
theorem len64_any (n : Nat) (hn : n < lim) (w : World) : Calls Try.prog 94 #[.int .u64 (n : Int)] w fun e w' => ∃ b : Nat, e = .returned (.int .i64 (b : Int)) ∧ b ≤ 64 ∧ (b + 7) / 8 = nb n ∧ w' = w := by
  have HN : Shut (n < lim) := ⟨hn⟩
  clear hn
  obtain ⟨x, hx⟩ : ∃ x : Int, x = (n : Int) := ⟨_, rfl⟩
  have HX : Shut (x = (n : Int)) := ⟨hx⟩
  rw [← hx]
  clear hx
  go_enter Try.func94, Try.ntmps94
  go_wp2_with (with_reducible refine wpList_at ?_; first | (refine wpList_value_d 21 rfl rfl _ (run_conv8 _ rfl _ rfl _) ?_; (try simp only [Act.put, List.setIfInBounds_toArray, List.set_cons_zero, List.set_cons_succ])) | (refine wpList_value_d 22 rfl rfl _ (run_tab _ _ rfl (by kernel_rfl) _ rfl _) ?_; (try simp only [Act.put, List.setIfInBounds_toArray, List.set_cons_zero, List.set_cons_succ])))
  all_goals first
    | (have t1 : 4294967296 ≤ x := by assumption
       have t2 : 65536 ≤ x / 4294967296 := by assumption
       have t3 : 256 ≤ x / 4294967296 / 65536 := by assumption
       go_ret
       have hf := nb_k n 7 (x / 4294967296 / 65536 / 256) (by decide) (nb_w7 n x HX.out HN.out t1 t2 t3)
       exact ⟨_, congrArg Ending.returned (congrArg (Value.int IntKind.i64) (wrap_add 56 _ (by decide) (t8_of _).1)), hf.1, hf.2, rfl⟩)
    | (have t1 : 4294967296 ≤ x := by assumption
       have t2 : 65536 ≤ x / 4294967296 := by assumption
       have t3 : x / 4294967296 / 65536 < 256 := by assumption
       go_ret
       have hf := nb_k n 6 (x / 4294967296 / 65536) (by decide) (nb_w6 n x HX.out HN.out t1 t2 t3)
       exact ⟨_, congrArg Ending.returned (congrArg (Value.int IntKind.i64) (wrap_add 48 _ (by decide) (t8_of _).1)), hf.1, hf.2, rfl⟩)
    | (have t1 : 4294967296 ≤ x := by assumption
       have t2 : x / 4294967296 < 65536 := by assumption
       have t3 : 256 ≤ x / 4294967296 := by assumption
       go_ret
       have hf := nb_k n 5 (x / 4294967296 / 256) (by decide) (nb_w5 n x HX.out HN.out t1 t2 t3)
       exact ⟨_, congrArg Ending.returned (congrArg (Value.int IntKind.i64) (wrap_add 40 _ (by decide) (t8_of _).1)), hf.1, hf.2, rfl⟩)
    | (have t1 : 4294967296 ≤ x := by assumption
       have t2 : x / 4294967296 < 65536 := by assumption
       have t3 : x / 4294967296 < 256 := by assumption
       go_ret
       have hf := nb_k n 4 (x / 4294967296) (by decide) (nb_w4 n x HX.out HN.out t1 t2 t3)
       exact ⟨_, congrArg Ending.returned (congrArg (Value.int IntKind.i64) (wrap_add 32 _ (by decide) (t8_of _).1)), hf.1, hf.2, rfl⟩)
    | (have t1 : x < 4294967296 := by assumption
       have t2 : 65536 ≤ x := by assumption
       have t3 : 256 ≤ x / 65536 := by assumption
       go_ret
       have hf := nb_k n 3 (x / 65536 / 256) (by decide) (nb_w3 n x HX.out HN.out t1 t2 t3)
       exact ⟨_, congrArg Ending.returned (congrArg (Value.int IntKind.i64) (wrap_add 24 _ (by decide) (t8_of _).1)), hf.1, hf.2, rfl⟩)
    | (have t1 : x < 4294967296 := by assumption
       have t2 : 65536 ≤ x := by assumption
       have t3 : x / 65536 < 256 := by assumption
       go_ret
       have hf := nb_k n 2 (x / 65536) (by decide) (nb_w2 n x HX.out HN.out t1 t2 t3)
       exact ⟨_, congrArg Ending.returned (congrArg (Value.int IntKind.i64) (wrap_add 16 _ (by decide) (t8_of _).1)), hf.1, hf.2, rfl⟩)
    | (have t1 : x < 4294967296 := by assumption
       have t2 : x < 65536 := by assumption
       have t3 : 256 ≤ x := by assumption
       go_ret
       have hf := nb_k n 1 (x / 256) (by decide) (nb_w1 n x HX.out HN.out t1 t2 t3)
       exact ⟨_, congrArg Ending.returned (congrArg (Value.int IntKind.i64) (wrap_add 8 _ (by decide) (t8_of _).1)), hf.1, hf.2, rfl⟩)
    | (have t1 : x < 4294967296 := by assumption
       have t2 : x < 65536 := by assumption
       have t3 : x < 256 := by assumption
       go_ret
       have hf := nb_k n 0 (x) (by decide) (nb_w0 n x HX.out HN.out t1 t2 t3)
       exact ⟨_, congrArg Ending.returned (congrArg (Value.int IntKind.i64) (wrap_two _ (t8_of _).1)), hf.1, hf.2, rfl⟩)
end Go.Proofs.Ytgfnjekpafempaa
