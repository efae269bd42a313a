/- Numbers and texts as bytes: what the document says of lists of bytes; no program. -/
import Derived.Test.YthmcnlmphikicaaGB1
import Derived.Test.YthmcnlmphikicaaGFr
namespace Go.Proofs.Ythmcnlmphikicaa
def lim : Nat := 18446744073709551616
def nb (x : Nat) : Nat := if x = 0 then 0 else if x < 256 then 1 else if x < 65536 then 2 else if x < 16777216 then 3 else if x < 4294967296 then 4 else if x < 1099511627776 then 5 else if x < 281474976710656 then 6 else if x < 72057594037927936 then 7 else 8
theorem nb_le (x : Nat) : nb x ≤ 8 := by unfold nb; (repeat' split) <;> omega
def beL : Nat → Nat → List Nat
  | 0, _ => []
  | n + 1, x => beL n (x / 256) ++ [x % 256]
theorem beL_len : ∀ n x, (beL n x).length = n
  | 0, _ => rfl
  | n + 1, x => by simp [beL, beL_len n]
theorem beL_get : ∀ n x i, i < n → (beL n x).getD i 0 = x / 256 ^ (n - 1 - i) % 256
  | 0, _, i, h => by omega
  | n + 1, x, i, h => by
    have hl := beL_len n (x / 256)
    rw [beL, List.getD_eq_getElem?_getD, List.getElem?_append]
    by_cases hi : i < n
    · rw [if_pos (by omega), ← List.getD_eq_getElem?_getD, beL_get n _ i hi]
      have : n + 1 - 1 - i = (n - 1 - i) + 1 := by omega
      rw [this, Nat.pow_succ, Nat.mul_comm (256 ^ (n - 1 - i)) 256, Nat.div_div_eq_div_mul]
    · have : i = n := by omega
      subst this
      rw [if_neg (by omega)]
      simp [hl]
def valL (l : List Nat) : Nat := l.foldl (fun a b => a * 256 + b) 0
theorem valL_snoc (l : List Nat) (b : Nat) : valL (l ++ [b]) = valL l * 256 + b := by unfold valL; rw [List.foldl_append]; rfl
theorem snoc_of {l : List Nat} {n : Nat} (h : l.length = n + 1) : ∃ q b, l = q ++ [b] ∧ q.length = n := by
  have hne : l ≠ [] := by intro e; rw [e] at h; simp at h
  exact ⟨l.dropLast, l.getLast hne, (List.dropLast_concat_getLast hne).symm, by simp [h]⟩
theorem beL_valL : ∀ n (l : List Nat), l.length = n → (∀ x ∈ l, x < 256) → beL n (valL l) = l
  | 0, l, h, _ => by rw [List.eq_nil_of_length_eq_zero h]; rfl
  | n + 1, l, h, hl => by
    obtain ⟨q, b, rfl, hq⟩ := snoc_of h
    have hb := hl b (by simp)
    rw [valL_snoc, beL]
    have h1 : (valL q * 256 + b) / 256 = valL q := by omega
    have h2 : (valL q * 256 + b) % 256 = b := by omega
    rw [h1, h2, beL_valL n q hq fun x hx => hl x (by simp [hx])]
theorem valL_lt : ∀ n (l : List Nat), l.length = n → (∀ x ∈ l, x < 256) → valL l < 256 ^ n
  | 0, l, h, _ => by rw [List.eq_nil_of_length_eq_zero h]; decide
  | n + 1, l, h, hl => by
    obtain ⟨q, b, rfl, hq⟩ := snoc_of h
    have hb := hl b (by simp)
    have := valL_lt n q hq fun x hx => hl x (by simp [hx])
    rw [valL_snoc, Nat.pow_succ]
    omega
theorem valL_ge : ∀ n (l : List Nat), l.length = n + 1 → l.headD 0 ≠ 0 → 256 ^ n ≤ valL l
  | 0, l, h, hh => by
    match l, h with
    | [b], _ => simp [valL] at hh ⊢; omega
  | n + 1, l, h, hh => by
    obtain ⟨q, b, rfl, hq⟩ := snoc_of h
    have := valL_ge n q hq (by
      match q, hq with
      | c :: r, _ => simpa using hh)
    rw [valL_snoc, Nat.pow_succ]
    omega
theorem nb_of (x k : Nat) (hk : k ≤ 8) (h1 : x < 256 ^ k) (h2 : 0 < k → 256 ^ (k - 1) ≤ x) : nb x = k := by
  have hk' : k = 0 ∨ k = 1 ∨ k = 2 ∨ k = 3 ∨ k = 4 ∨ k = 5 ∨ k = 6 ∨ k = 7 ∨ k = 8 := by omega
  rcases hk' with rfl | rfl | rfl | rfl | rfl | rfl | rfl | rfl | rfl <;> simp at h1 h2 <;> unfold nb <;> (repeat' split) <;> omega
def numL (x : Nat) : List Nat := nb x :: beL (nb x) x
theorem numL_len (x : Nat) : (numL x).length = nb x + 1 := by simp [numL, beL_len]
def getR (p : Nat) : List Nat → Nat × Nat × Nat
  | [] => (0, 0, 3)
  | k :: q => if 8 < k then (0, 0, 2) else if q.length < k then (0, 0, 3) else if 0 < k ∧ q.headD 0 = 0 then (0, 0, 2) else (valL (q.take k), p + 1 + k, 0)
def getE (l : List Nat) (i : Int) : Nat × Nat × Nat := if i < 0 ∨ (l.length : Int) < i then (0, 0, 1) else getR i.toNat (l.drop i.toNat)
theorem getR_back (p : Nat) (l : List Nat) (hl : ∀ x ∈ l, x < 256) (n q e : Nat) (h : getR p l = (n, q, e)) : (e = 0 → n < lim ∧ q ≤ p + l.length ∧ p ≤ q ∧ l.take (q - p) = numL n) ∧ (e ≠ 0 → n = 0 ∧ q = 0) ∧ e ≤ 3 := by
  cases l with
  | nil => simp only [getR, Prod.mk.injEq] at h; omega
  | cons k r =>
    rw [getR] at h
    split at h
    · simp only [Prod.mk.injEq] at h; omega
    · split at h
      · simp only [Prod.mk.injEq] at h; omega
      · split at h
        · simp only [Prod.mk.injEq] at h; omega
        · rename_i h1 h2 h3
          simp only [Prod.mk.injEq] at h
          obtain ⟨rfl, rfl, rfl⟩ := h
          have hlen : (r.take k).length = k := by rw [List.length_take]; omega
          have hlt : ∀ x ∈ r.take k, x < 256 := fun x hx => hl x (List.mem_cons_of_mem _ (List.mem_of_mem_take hx))
          have hv := valL_lt k _ hlen hlt
          have hge : 0 < k → 256 ^ (k - 1) ≤ valL (r.take k) := fun h0 => valL_ge (k - 1) _ (by omega) (by
            intro h4
            apply h3
            refine ⟨h0, ?_⟩
            cases r with
            | nil => rfl
            | cons c r =>
              obtain ⟨m, rfl⟩ : ∃ m, k = m + 1 := ⟨k - 1, by omega⟩
              simpa using h4)
          have hnb := nb_of _ k (by omega) hv hge
          refine ⟨fun _ => ⟨?_, by simp; omega, by omega, ?_⟩, by omega, by omega⟩
          · have : (256 : Nat) ^ k ≤ 256 ^ 8 := Nat.pow_le_pow_right (by decide) (by omega)
            have e8 : (256 : Nat) ^ 8 = lim := by decide
            omega
          · have e1 : p + 1 + k - p = k + 1 := by omega
            rw [e1, List.take_succ_cons, numL, hnb, beL_valL k _ hlen hlt]
theorem getE_back (l : List Nat) (hl : ∀ x ∈ l, x < 256) (i : Int) (n q e : Nat) (h : getE l i = (n, q, e)) : (e = 0 → n < lim ∧ 0 ≤ i ∧ i ≤ q ∧ q ≤ l.length ∧ (l.drop i.toNat).take (q - i.toNat) = numL n) ∧ (e ≠ 0 → n = 0 ∧ q = 0) ∧ e ≤ 3 := by
  rw [getE] at h
  split at h
  · simp only [Prod.mk.injEq] at h; omega
  · rename_i h1
    have := getR_back i.toNat (l.drop i.toNat) (fun x hx => hl x (List.mem_of_mem_drop hx)) n q e h
    rw [List.length_drop] at this
    refine ⟨fun h0 => ?_, this.2⟩
    obtain ⟨h2, h3, h4, h5⟩ := this.1 h0
    exact ⟨h2, by omega, by omega, by omega, h5⟩
def putN (l : List Nat) : List Nat := l.flatMap numL
def textL (s : List Nat) : List Nat := numL s.length ++ s
def putT (l : List (List Nat)) : List Nat := l.flatMap textL
def getT (l : List Nat) (i m : Int) : List Nat × Nat × Nat :=
  if (getE l i).2.2 ≠ 0 then ([], 0, (getE l i).2.2) else if m < 0 ∨ m < ((getE l i).1 : Int) then ([], 0, 4) else if l.length - (getE l i).2.1 < (getE l i).1 then ([], 0, 3) else ((l.drop (getE l i).2.1).take (getE l i).1, (getE l i).2.1 + (getE l i).1, 0)
end Go.Proofs.Ythmcnlmphikicaa
namespace Go.Proofs.Ythmcnlmphikicaa
open Go.RowKit
theorem bT : NumT Try.prog 32 5 .u8 1 := ⟨Try.underlying32, Try.underlying5, by
  have h : (Try.prog.info? 5).map (fun i => (i.zero, i.size, i.bytes)) = some (some (.int .u8 0), 1, 1) := by kernel_rfl
  cases hi : Try.prog.info? 5 with
  | none => rw [hi] at h; cases h
  | some i =>
    rw [hi] at h
    simp only [Option.map_some, Option.some.injEq, Prod.mk.injEq] at h
    exact ⟨i, rfl, h.1, h.2.1, h.2.2⟩⟩
theorem uT : NumT Try.prog 107 62 .u64 8 := ⟨Try.underlying107, Try.underlying62, by
  have h : (Try.prog.info? 62).map (fun i => (i.zero, i.size, i.bytes)) = some (some (.int .u64 0), 1, 8) := by kernel_rfl
  cases hi : Try.prog.info? 62 with
  | none => rw [hi] at h; cases h
  | some i =>
    rw [hi] at h
    simp only [Option.map_some, Option.some.injEq, Prod.mk.injEq] at h
    exact ⟨i, rfl, h.1, h.2.1, h.2.2⟩⟩
def tab8 : List UInt8 := [0] ++ List.replicate 1 1 ++ List.replicate 2 2 ++ List.replicate 4 3 ++ List.replicate 8 4 ++ List.replicate 16 5 ++ List.replicate 32 6 ++ List.replicate 64 7 ++ List.replicate 128 8
def t8 (z : Int) : Nat := (tab8[z.toNat]?.getD 0).toNat
theorem tab8_len : tab8.length = 256 := by decide +kernel
theorem t8_of (z : Int) : t8 (z % 256) ≤ 8 ∧ (t8 (z % 256) + 7) / 8 = if z % 256 = 0 then 0 else 1 := by
  have h : (List.range 256).all (fun v => decide ((tab8[v]?.getD 0).toNat ≤ 8) && ((((tab8[v]?.getD 0).toNat + 7) / 8) == (if v = 0 then 0 else 1))) = true := by decide +kernel
  have := List.all_eq_true.1 h (z % 256).toNat (List.mem_range.2 (by omega))
  simp only [Bool.and_eq_true, decide_eq_true_eq, beq_iff_eq] at this
  refine ⟨this.1, ?_⟩
  have e : ((z % 256).toNat = 0) = (z % 256 = 0) := by
    apply propext
    omega
  unfold t8
  rw [this.2]
  simp only [e]
theorem run_conv8 {o : Oper} {A : Act} (x : Operand) (ho : o.op = .convert 62 5 x) (z : Int) (hx : A.eval x = .int .u64 z) (w : World) : (execOp A.eval o).run Try.prog w = .ok (.value (.int .u8 (z % 256))) w := by
  unfold execOp
  simp only [ho, hx]
  simp [go_sem]
  simp [IntKind.wrap, IntKind.bits, IntKind.signed]
theorem run_tab {o : Oper} {A : Act} (y : Operand) (s : ByteArray) (ho : o.op = .index 9 (.const (.string s)) y) (hs : s.data.toList = tab8) (z : Int) (hy : A.eval y = .int .u8 (z % 256)) (w : World) : (execOp A.eval o).run Try.prog w = .ok (.value (.int .u8 (t8 (z % 256) : Int))) w := by
  have hl := tab8_len
  have h1 : s[(z % 256).toNat]? = tab8[(z % 256).toNat]? := by
    cases s with
    | mk d =>
      show (if h : _ < d.size then some d[(z % 256).toNat] else none) = _
      simp only at hs
      rw [← hs]
      by_cases h : (z % 256).toNat < d.size
      · simp [h]
      · simp [h]
  have h2 : (z % 256).toNat < tab8.length := by omega
  have h : (Instr.index 9 (.string s) (.int .u8 (z % 256))).run Try.prog w = .ok (.int .u8 (t8 (z % 256) : Int)) w := by
    simp only [Instr.index, Sem.run_bind, asIntOf, Sem.run_pure, Result.andThen_ok, run_underlying Try.underlying9, if_pos (show 0 ≤ z % 256 by omega), h1]
    unfold t8
    rw [List.getElem?_eq_getElem h2]
    rfl
  unfold execOp
  have hc : A.eval (.const (.string s)) = .string s := rfl
  simp only [ho, hy, hc, Sem.run_bind, h, Result.andThen_ok, Sem.run_pure]
theorem wrap_add (k a : Nat) (hk : k ≤ 56) (ha : a ≤ 8) : wrap64 ((k : Int) + wrap64 (a : Int)) = ((k + a : Nat) : Int) := by
  unfold wrap64
  omega
theorem wrap_two (a : Nat) (ha : a ≤ 8) : wrap64 (wrap64 (a : Int)) = ((0 + a : Nat) : Int) := by
  unfold wrap64
  omega
theorem nb_k (n k : Nat) (z : Int) (hk : 8 * k ≤ 56) (h : nb n = k + if z % 256 = 0 then 0 else 1) : (8 * k + t8 (z % 256)) ≤ 64 ∧ ((8 * k + t8 (z % 256)) + 7) / 8 = nb n := by
  have := t8_of z
  rw [h]
  omega
theorem nb_w7 (n : Nat) (x : Int) (hx : x = (n : Int)) (hn : n < lim) (h1 : 4294967296 ≤ x) (h2 : 65536 ≤ x / 4294967296) (h3 : 256 ≤ x / 4294967296 / 65536) : nb n = 7 + if (x / 4294967296 / 65536 / 256) % 256 = 0 then 0 else 1 := by
  subst hx
  unfold lim at hn
  unfold nb
  (repeat' split) <;> omega
theorem nb_w6 (n : Nat) (x : Int) (hx : x = (n : Int)) (hn : n < lim) (h1 : 4294967296 ≤ x) (h2 : 65536 ≤ x / 4294967296) (h3 : x / 4294967296 / 65536 < 256) : nb n = 6 + if (x / 4294967296 / 65536) % 256 = 0 then 0 else 1 := by
  subst hx
  unfold lim at hn
  unfold nb
  (repeat' split) <;> omega
theorem nb_w5 (n : Nat) (x : Int) (hx : x = (n : Int)) (hn : n < lim) (h1 : 4294967296 ≤ x) (h2 : x / 4294967296 < 65536) (h3 : 256 ≤ x / 4294967296) : nb n = 5 + if (x / 4294967296 / 256) % 256 = 0 then 0 else 1 := by
  subst hx
  unfold lim at hn
  unfold nb
  (repeat' split) <;> omega
theorem nb_w4 (n : Nat) (x : Int) (hx : x = (n : Int)) (hn : n < lim) (h1 : 4294967296 ≤ x) (h2 : x / 4294967296 < 65536) (h3 : x / 4294967296 < 256) : nb n = 4 + if (x / 4294967296) % 256 = 0 then 0 else 1 := by
  subst hx
  unfold lim at hn
  unfold nb
  (repeat' split) <;> omega
theorem nb_w3 (n : Nat) (x : Int) (hx : x = (n : Int)) (hn : n < lim) (h1 : x < 4294967296) (h2 : 65536 ≤ x) (h3 : 256 ≤ x / 65536) : nb n = 3 + if (x / 65536 / 256) % 256 = 0 then 0 else 1 := by
  subst hx
  unfold lim at hn
  unfold nb
  (repeat' split) <;> omega
theorem nb_w2 (n : Nat) (x : Int) (hx : x = (n : Int)) (hn : n < lim) (h1 : x < 4294967296) (h2 : 65536 ≤ x) (h3 : x / 65536 < 256) : nb n = 2 + if (x / 65536) % 256 = 0 then 0 else 1 := by
  subst hx
  unfold lim at hn
  unfold nb
  (repeat' split) <;> omega
theorem nb_w1 (n : Nat) (x : Int) (hx : x = (n : Int)) (hn : n < lim) (h1 : x < 4294967296) (h2 : x < 65536) (h3 : 256 ≤ x) : nb n = 1 + if (x / 256) % 256 = 0 then 0 else 1 := by
  subst hx
  unfold lim at hn
  unfold nb
  (repeat' split) <;> omega
theorem nb_w0 (n : Nat) (x : Int) (hx : x = (n : Int)) (hn : n < lim) (h1 : x < 4294967296) (h2 : x < 65536) (h3 : x < 256) : nb n = 0 + if (x) % 256 = 0 then 0 else 1 := by
  subst hx
  unfold lim at hn
  unfold nb
  (repeat' split) <;> omega
set_option maxRecDepth 1000000 in
set_option maxHeartbeats 4000000 in
theorem len64_any (n : Nat) (hn : n < lim) (w : World) : Calls Try.prog 67 #[.int .u64 (n : Int)] w fun e w' => ∃ b : Nat, e = .returned (.int .i64 (b : Int)) ∧ b ≤ 64 ∧ (b + 7) / 8 = nb n ∧ w' = w := by
  have HN : Shut (n < lim) := ⟨hn⟩
  clear hn
  obtain ⟨x, hx⟩ : ∃ x : Int, x = (n : Int) := ⟨_, rfl⟩
  have HX : Shut (x = (n : Int)) := ⟨hx⟩
  rw [← hx]
  clear hx
  go_enter Try.func67, Try.ntmps67
  go_wp2_with (with_reducible refine wpList_at ?_; first | (refine wpList_value_d 21 rfl rfl _ (run_conv8 _ rfl _ rfl _) ?_; (try simp only [Act.put, List.setIfInBounds_toArray, List.set_cons_zero, List.set_cons_succ])) | (refine wpList_value_d 22 rfl rfl _ (run_tab _ _ rfl (by kernel_rfl) _ rfl _) ?_; (try simp only [Act.put, List.setIfInBounds_toArray, List.set_cons_zero, List.set_cons_succ])))
  all_goals first
    | (have t1 : 4294967296 ≤ x := by assumption
       have t2 : 65536 ≤ x / 4294967296 := by assumption
       have t3 : 256 ≤ x / 4294967296 / 65536 := by assumption
       go_ret
       have hf := nb_k n 7 (x / 4294967296 / 65536 / 256) (by decide) (nb_w7 n x HX.out HN.out t1 t2 t3)
       exact ⟨_, congrArg Ending.returned (congrArg (Value.int IntKind.i64) (wrap_add 56 _ (by decide) (t8_of _).1)), hf.1, hf.2, rfl⟩)
    | (have t1 : 4294967296 ≤ x := by assumption
       have t2 : 65536 ≤ x / 4294967296 := by assumption
       have t3 : x / 4294967296 / 65536 < 256 := by assumption
       go_ret
       have hf := nb_k n 6 (x / 4294967296 / 65536) (by decide) (nb_w6 n x HX.out HN.out t1 t2 t3)
       exact ⟨_, congrArg Ending.returned (congrArg (Value.int IntKind.i64) (wrap_add 48 _ (by decide) (t8_of _).1)), hf.1, hf.2, rfl⟩)
    | (have t1 : 4294967296 ≤ x := by assumption
       have t2 : x / 4294967296 < 65536 := by assumption
       have t3 : 256 ≤ x / 4294967296 := by assumption
       go_ret
       have hf := nb_k n 5 (x / 4294967296 / 256) (by decide) (nb_w5 n x HX.out HN.out t1 t2 t3)
       exact ⟨_, congrArg Ending.returned (congrArg (Value.int IntKind.i64) (wrap_add 40 _ (by decide) (t8_of _).1)), hf.1, hf.2, rfl⟩)
    | (have t1 : 4294967296 ≤ x := by assumption
       have t2 : x / 4294967296 < 65536 := by assumption
       have t3 : x / 4294967296 < 256 := by assumption
       go_ret
       have hf := nb_k n 4 (x / 4294967296) (by decide) (nb_w4 n x HX.out HN.out t1 t2 t3)
       exact ⟨_, congrArg Ending.returned (congrArg (Value.int IntKind.i64) (wrap_add 32 _ (by decide) (t8_of _).1)), hf.1, hf.2, rfl⟩)
    | (have t1 : x < 4294967296 := by assumption
       have t2 : 65536 ≤ x := by assumption
       have t3 : 256 ≤ x / 65536 := by assumption
       go_ret
       have hf := nb_k n 3 (x / 65536 / 256) (by decide) (nb_w3 n x HX.out HN.out t1 t2 t3)
       exact ⟨_, congrArg Ending.returned (congrArg (Value.int IntKind.i64) (wrap_add 24 _ (by decide) (t8_of _).1)), hf.1, hf.2, rfl⟩)
    | (have t1 : x < 4294967296 := by assumption
       have t2 : 65536 ≤ x := by assumption
       have t3 : x / 65536 < 256 := by assumption
       go_ret
       have hf := nb_k n 2 (x / 65536) (by decide) (nb_w2 n x HX.out HN.out t1 t2 t3)
       exact ⟨_, congrArg Ending.returned (congrArg (Value.int IntKind.i64) (wrap_add 16 _ (by decide) (t8_of _).1)), hf.1, hf.2, rfl⟩)
    | (have t1 : x < 4294967296 := by assumption
       have t2 : x < 65536 := by assumption
       have t3 : 256 ≤ x := by assumption
       go_ret
       have hf := nb_k n 1 (x / 256) (by decide) (nb_w1 n x HX.out HN.out t1 t2 t3)
       exact ⟨_, congrArg Ending.returned (congrArg (Value.int IntKind.i64) (wrap_add 8 _ (by decide) (t8_of _).1)), hf.1, hf.2, rfl⟩)
    | (have t1 : x < 4294967296 := by assumption
       have t2 : x < 65536 := by assumption
       have t3 : x < 256 := by assumption
       go_ret
       have hf := nb_k n 0 (x) (by decide) (nb_w0 n x HX.out HN.out t1 t2 t3)
       exact ⟨_, congrArg Ending.returned (congrArg (Value.int IntKind.i64) (wrap_two _ (t8_of _).1)), hf.1, hf.2, rfl⟩)
end Go.Proofs.Ythmcnlmphikicaa
