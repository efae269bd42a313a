/- Walks: Parse at every text. -/
import Derived.Test.YtaeiphdbdmaapaaBase
import Derived.Test.YtaeiphdbdmaapaaFr
import Derived.Test.YtaeiphdbdmaapaaW8
import Derived.Laws.RangeAny
namespace Go.Proofs.Ytaeiphdbdmaapaa
open Go.RowKit

/-- The byte at place k, 0 beyond the text. -/
def bt (s : ByteArray) (k : Nat) : Nat := (s.data[k]?.getD 0).toNat
theorem bt_at (s : ByteArray) (k : Nat) (h : k < s.size) : (s[k]'h).toNat = bt s k := by
  have h2 : k < s.data.size := h
  unfold bt
  rw [Array.getElem?_eq_getElem h2]
  rfl
theorem bt_lt (s : ByteArray) (k : Nat) : bt s k < 256 := (s.data[k]?.getD 0).toNat_lt
def isHex (c : Nat) : Bool := (decide (48 ≤ c) && decide (c ≤ 57)) || (decide (97 ≤ c) && decide (c ≤ 102))
def hexN (c : Nat) : Nat := if c ≤ 57 then c - 48 else c - 87
theorem isHex_iff (c : Nat) : isHex c = true ↔ (48 ≤ c ∧ c ≤ 57) ∨ (97 ≤ c ∧ c ≤ 102) := by simp [isHex]
theorem hexN_lt (c : Nat) (h : isHex c = true) : hexN c < 16 := by
  rw [isHex_iff] at h
  unfold hexN
  split <;> omega
/-- Byte j, when the first k digits are read. -/
def pb (s : ByteArray) (k j : Nat) : Nat := if 2 * j + 1 < k then 16 * hexN (bt s (2 * j)) + hexN (bt s (2 * j + 1)) else if 2 * j < k then hexN (bt s (2 * j)) else 0
def fA (f : Nat → Nat) : Array Value := Array.ofFn (n := 16) fun i => Value.int .u8 (f i.val : Int)
theorem fA_size (f : Nat → Nat) : (fA f).size = 16 := by simp [fA]
theorem fA_get (f : Nat → Nat) (k : Nat) (h : k < 16) : (fA f)[k]? = some (.int .u8 (f k : Int)) := by simp [fA, h]
theorem fA_one (f : Nat → Nat) : (fA f).all (·.oneCell') = true := by
  rw [Array.all_eq_true]
  intro i hi
  simp [fA, Value.oneCell']
theorem fA_zero (s : ByteArray) : fA (pb s 0) = idA 0 := by
  apply Array.ext_getElem?
  intro i
  by_cases h : i < 16
  · rw [fA_get _ _ h, idA_get _ _ h]
    have h1 : byt 0 i = 0 := by simp [byt]
    have h2 : pb s 0 i = 0 := by simp [pb]
    rw [h1, h2]
  · rw [Array.getElem?_eq_none (by rw [fA_size]; omega), Array.getElem?_eq_none (by rw [idA_size]; omega)]
theorem fA_step (s : ByteArray) (k : Nat) : (fA (pb s k)).setIfInBounds (k / 2) (.int .u8 ((16 * pb s k (k / 2) + hexN (bt s k) : Nat) : Int)) = fA (pb s (k + 1)) := by
  apply Array.ext_getElem?
  intro i
  by_cases h : i < 16
  · rw [fA_get _ _ h, Array.getElem?_setIfInBounds]
    by_cases e : k / 2 = i
    · rw [if_pos e, if_pos (by rw [fA_size]; omega)]
      subst e
      have : pb s (k + 1) (k / 2) = 16 * pb s k (k / 2) + hexN (bt s k) := by
        unfold pb
        by_cases h2 : k % 2 = 0
        · have e1 : ¬ 2 * (k / 2) + 1 < k + 1 := by omega
          have e2 : 2 * (k / 2) < k + 1 := by omega
          have e3 : ¬ 2 * (k / 2) + 1 < k := by omega
          have e4 : ¬ 2 * (k / 2) < k := by omega
          have e5 : 2 * (k / 2) = k := by omega
          rw [if_neg e1, if_pos e2, if_neg e3, if_neg e4, e5]
          omega
        · have e1 : 2 * (k / 2) + 1 < k + 1 := by omega
          have e3 : ¬ 2 * (k / 2) + 1 < k := by omega
          have e4 : 2 * (k / 2) < k := by omega
          have e5 : 2 * (k / 2) + 1 = k := by omega
          rw [if_pos e1, if_neg e3, if_pos e4, e5]
      rw [this]
    · rw [if_neg e, fA_get _ _ h]
      have : pb s (k + 1) i = pb s k i := by
        unfold pb
        by_cases h2 : 2 * i + 1 < k
        · rw [if_pos h2, if_pos (by omega)]
        · rw [if_neg h2, if_neg (by omega)]
          by_cases h3 : 2 * i < k
          · rw [if_pos h3, if_pos (by omega)]
          · rw [if_neg h3, if_neg (by omega)]
      rw [this]
  · rw [Array.getElem?_eq_none (by simp [fA_size]; omega), Array.getElem?_eq_none (by rw [fA_size]; omega)]
theorem pb_half (s : ByteArray) (k : Nat) (h : ∀ i, i < k → isHex (bt s i) = true) : pb s k (k / 2) < 16 := by
  unfold pb
  have e3 : ¬ 2 * (k / 2) + 1 < k := by omega
  rw [if_neg e3]
  by_cases e4 : 2 * (k / 2) < k
  · rw [if_pos e4]; exact hexN_lt _ (h _ e4)
  · rw [if_neg e4]; omega
theorem pb_lt (s : ByteArray) (k j : Nat) (h : ∀ i, i < k → isHex (bt s i) = true) : pb s k j < 256 := by
  unfold pb
  split
  · have h1 := hexN_lt _ (h (2 * j) (by omega))
    have h2 := hexN_lt _ (h (2 * j + 1) (by omega))
    omega
  · split
    · have h1 := hexN_lt _ (h (2 * j) (by omega))
      omega
    · omega
/-- The number of 16 bytes. -/
def numF (f : Nat → Nat) : Nat → Nat
  | 0 => 0
  | k + 1 => numF f k * 256 + f k
theorem numF_spec (f : Nat → Nat) (hf : ∀ i, f i < 256) : ∀ k, numF f k < 256 ^ k ∧ ∀ i, i < k → numF f k / 256 ^ (k - 1 - i) % 256 = f i := by
  intro k
  induction k with
  | zero => exact ⟨by simp [numF], fun i hi => by omega⟩
  | succ k ih =>
    obtain ⟨h1, h2⟩ := ih
    have hk := hf k
    refine ⟨?_, fun i hi => ?_⟩
    · rw [Nat.pow_succ]; unfold numF; omega
    · unfold numF
      by_cases e : i = k
      · subst e
        have : i + 1 - 1 - i = 0 := by omega
        rw [this, Nat.pow_zero, Nat.div_one]
        omega
      · have h3 := h2 i (by omega)
        have : k + 1 - 1 - i = (k - 1 - i) + 1 := by omega
        rw [this, Nat.pow_succ, Nat.mul_comm (256 ^ (k - 1 - i)) 256, ← Nat.div_div_eq_div_mul]
        have : (numF f k * 256 + f k) / 256 = numF f k := by omega
        rw [this]
        exact h3
theorem fA_num (f : Nat → Nat) (hf : ∀ i, f i < 256) : fA f = idA (numF f 16) := by
  apply Array.ext_getElem?
  intro i
  by_cases h : i < 16
  · rw [fA_get _ _ h, idA_get _ _ h]
    have : byt (numF f 16) i = f i := (numF_spec f hf 16).2 i h
    rw [this]
  · rw [Array.getElem?_eq_none (by rw [fA_size]; omega), Array.getElem?_eq_none (by rw [idA_size]; omega)]
/-- Are all of the first k bytes digits? -/
def allHex (s : ByteArray) (k : Nat) : Bool := (List.range k).all fun i => isHex (bt s i)
theorem allHex_iff (s : ByteArray) (k : Nat) : allHex s k = true ↔ ∀ i, i < k → isHex (bt s i) = true := by simp [allHex]
/-- What reading a text answers. -/
def resE (s : ByteArray) : Int := if allHex s (min s.size 33) = true then (if 32 < s.size then 4 else if s.size < 32 then 3 else 0) else 2
def resN (s : ByteArray) : Nat := if resE s = 0 then numF (pb s 32) 16 else 0
theorem res_form (s : ByteArray) (k : Nat) (hk : k ≤ 32) (hs : k < s.size) (h : isHex (bt s k) = false) : resE s = 2 ∧ resN s = 0 := by
  have h1 : resE s = 2 := by
    unfold resE
    rw [if_neg]
    intro h2
    have h3 := (allHex_iff s _).1 h2 k (by omega)
    rw [h] at h3
    cases h3
  exact ⟨h1, by rw [resN, h1]; rfl⟩
theorem res_long (s : ByteArray) (hs : 32 < s.size) (h : ∀ i, i < 32 → isHex (bt s i) = true) (h2 : isHex (bt s 32) = true) : resE s = 4 ∧ resN s = 0 := by
  have h1 : resE s = 4 := by
    unfold resE
    rw [if_pos, if_pos hs]
    rw [allHex_iff]
    intro i hi
    by_cases e : i = 32
    · subst e; exact h2
    · exact h i (by omega)
  exact ⟨h1, by rw [resN, h1]; rfl⟩
theorem res_short (s : ByteArray) (hs : s.size < 32) (h : ∀ i, i < s.size → isHex (bt s i) = true) : resE s = 3 ∧ resN s = 0 := by
  have h1 : resE s = 3 := by
    unfold resE
    rw [if_pos, if_neg (by omega), if_pos hs]
    rw [allHex_iff]
    intro i hi
    exact h i (by omega)
  exact ⟨h1, by rw [resN, h1]; rfl⟩
theorem res_ok (s : ByteArray) (hs : s.size = 32) (h : ∀ i, i < 32 → isHex (bt s i) = true) : resE s = 0 ∧ fA (pb s 32) = idA (resN s) := by
  have h1 : resE s = 0 := by
    unfold resE
    rw [if_pos, if_neg (by omega), if_neg (by omega)]
    rw [allHex_iff]
    intro i hi
    exact h i (by omega)
  refine ⟨h1, ?_⟩
  rw [resN, h1, if_pos rfl]
  exact fA_num _ fun i => pb_lt s 32 i h
theorem digit_hex (r : Nat) (h : isHex r = true) (w : World) : Calls Try.prog 32 #[.int .i32 (r : Int)] w fun e w' => e = .returned (.tuple #[.int .u8 (hexN r : Int), .bool true]) ∧ Gro w w' := by
  rw [isHex_iff] at h
  rcases h with ⟨h1, h2⟩ | ⟨h1, h2⟩
  · have e : (hexN r : Int) = (r : Int) - 48 := by unfold hexN; rw [if_pos h2]; omega
    rw [e]
    exact digit_09 r h1 h2 w
  · have e : (hexN r : Int) = (r : Int) - 97 + 10 := by unfold hexN; rw [if_neg (by omega)]; omega
    rw [e]
    exact digit_af r h1 h2 w
theorem dec_hex (s : ByteArray) (k : Nat) (hs : k < s.size) (h : isHex (bt s k) = true) : Utf8.decode s k = (bt s k, 1) := by
  have h2 := (isHex_iff _).1 h
  have := decode_ascii s k hs (by rw [bt_at]; omega)
  rw [bt_at] at this
  exact this
theorem dec_no (s : ByteArray) (k : Nat) (hs : k < s.size) (h : isHex (bt s k) = false) : ∃ c n, Utf8.decode s k = (c, n) ∧ (c < 48 ∨ (57 < c ∧ c < 97) ∨ 102 < c) := by
  have h2 : ¬ ((48 ≤ bt s k ∧ bt s k ≤ 57) ∨ (97 ≤ bt s k ∧ bt s k ≤ 102)) := fun h3 => by
    rw [(isHex_iff _).2 h3] at h
    cases h
  by_cases ha : bt s k < 128
  · have := decode_ascii s k hs (by rw [bt_at]; omega)
    rw [bt_at] at this
    exact ⟨_, _, this, by omega⟩
  · have := decode_high s k hs (by rw [bt_at]; omega)
    exact ⟨(Utf8.decode s k).1, (Utf8.decode s k).2, rfl, by omega⟩
theorem run_binop {P : Program} {o : Oper} {A : Act} {w : World} (op : BinOp) (t : TypeId) (x y : Operand) (t2 : TypeId) (ho : o.op = .binOp op t x y t2) (u v r : Value) (hx : A.eval x = u) (hy : A.eval y = v) (hg : (eqGuard op t x y u v).run P w = .ok () w) (h : (binOp op t u v).run P w = .ok r w) :
    (execOp A.eval o).run P w = .ok (.value r) w := by
  unfold execOp
  simp only [ho, hx, hy, Sem.run_bind, hg, h, Result.andThen_ok, Sem.run_pure]
theorem quo_2 : ∀ k : Nat, k < 33 → IntKind.i64.wrap ((k : Int) / 2) = ((k / 2 : Nat) : Int) := by
  have h : ∀ k : Fin 33, IntKind.i64.wrap ((k.val : Int) / 2) = ((k.val / 2 : Nat) : Int) := by decide +kernel
  exact fun k hk => h ⟨k, hk⟩
theorem run_quo2 {o : Oper} {A : Act} (x y : Operand) (t2 : TypeId) (ho : o.op = .binOp .quo 3 x y t2) (k : Nat) (hk : k < 33) (hx : A.eval x = .int .i64 (k : Int)) (hy : A.eval y = .int .i64 2) (w : World) : (execOp A.eval o).run Try.prog w = .ok (.value (.int .i64 ((k / 2 : Nat) : Int))) w := by
  refine run_binop .quo 3 x y t2 ho _ _ _ hx hy (by simp [eqGuard]) ?_
  have e : Int.tdiv (k : Int) 2 = (k : Int) / 2 := Int.tdiv_eq_ediv_of_nonneg (by omega)
  have e2 := quo_2 k hk
  generalize ((k / 2 : Nat) : Int) = q at *
  simp [go_sem, e, e2]
theorem run_shl4 {o : Oper} {A : Act} (x y : Operand) (t2 : TypeId) (ho : o.op = .binOp .shl 5 x y t2) (X : Nat) (hX : X < 16) (hx : A.eval x = .int .u8 (X : Int)) (hy : A.eval y = .int .u64 4) (w : World) : (execOp A.eval o).run Try.prog w = .ok (.value (.int .u8 ((16 * X : Nat) : Int))) w := by
  have h : ∀ X : Fin 16, IntKind.u8.wrap ((X.val : Int) * 16) = ((16 * X.val : Nat) : Int) := by decide +kernel
  have h' := h ⟨X, hX⟩
  simp only at h'
  refine run_binop .shl 5 x y t2 ho _ _ _ hx hy (by simp [eqGuard]) ?_
  generalize ((16 * X : Nat) : Int) = q at *
  simp [go_sem, h']
theorem or_16 : ∀ X d : Nat, X < 16 → d < 16 → bits BinOp.or IntKind.u8 ((16 * X : Nat) : Int) (d : Int) = ((16 * X + d : Nat) : Int) := by
  have h : ∀ X d : Fin 16, bits BinOp.or IntKind.u8 ((16 * X.val : Nat) : Int) (d.val : Int) = ((16 * X.val + d.val : Nat) : Int) := by decide +kernel
  exact fun X d hX hd => h ⟨X, hX⟩ ⟨d, hd⟩
theorem run_or16 {o : Oper} {A : Act} (x y : Operand) (t2 : TypeId) (ho : o.op = .binOp .or 5 x y t2) (X d : Nat) (hX : X < 16) (hd : d < 16) (hx : A.eval x = .int .u8 ((16 * X : Nat) : Int)) (hy : A.eval y = .int .u8 (d : Int)) (w : World) : (execOp A.eval o).run Try.prog w = .ok (.value (.int .u8 ((16 * X + d : Nat) : Int))) w := by
  have h := or_16 X d hX hd
  refine run_binop .or 5 x y t2 ho _ _ _ hx hy (by simp [eqGuard]) ?_
  generalize ((16 * X : Nat) : Int) = p at *
  generalize ((16 * X + d : Nat) : Int) = q at *
  simp [go_sem, h]
/-- The address of a byte. -/
theorem run_byteAt {o : Oper} {A : Act} (x y : Operand) (ho : o.op = .indexAddr 23 x y) (g j : Nat) (hj : j < 16) (hx : A.eval x = .pointer (some ⟨g, 0, none⟩)) (hy : A.eval y = .int .i64 (j : Int)) (w : World) : (execOp A.eval o).run Try.prog w = .ok (.value (.pointer (some ⟨g, j, none⟩))) w := by
  have h : (Instr.indexAt 23 (.pointer (some ⟨g, 0, none⟩)) (.int .i64 (j : Int))).run Try.prog w = .ok (.pointer (some ⟨g, j, none⟩)) w := by
    simp only [Instr.indexAt, Sem.run_bind]
    simp [Instr.sureAddr, asIntOf, Addr.add]
    rw [if_pos (by omega)]
    by_cases e : j = 0
    · subst e; rfl
    · rw [if_neg e]
  unfold execOp
  simp only [ho, hx, hy, Sem.run_bind, h, Result.andThen_ok, Sem.run_pure]
/-- A byte of a block. -/
theorem run_byteLoad {o : Oper} {A : Act} (x : Operand) (ho : o.op = .load 5 x) (g j : Nat) (hx : A.eval x = .pointer (some ⟨g, j, none⟩)) (w : World) (v : Value) (t : TypeId) (cs : Array Value) (hg : w.heap[g]? = some (.cells cs t (0, 0))) (hv : cs[j]? = some v) : (execOp A.eval o).run Try.prog w = .ok (.value v) w := by
  have hc : w.cell? ⟨g, j, none⟩ = some v := by rw [cell_of_row w g j _ t _ hg]; exact hv
  unfold execOp
  simp only [ho, hx]
  simp [go_sem, hc]
end Go.Proofs.Ytaeiphdbdmaapaa
