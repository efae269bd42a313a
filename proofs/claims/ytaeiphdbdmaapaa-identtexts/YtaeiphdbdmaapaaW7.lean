/- Walks. -/
import Derived.Test.YtaeiphdbdmaapaaBase
namespace Go.Proofs.Ytaeiphdbdmaapaa
open Go.RowKit

theorem size52 : (Try.prog.info? 52).map (·.size) = some 32 := by kernel_rfl
def hexd (k : Nat) : Nat := if k < 10 then 48 + k else 87 + k
def nib (n j : Nat) : Nat := if j % 2 = 0 then byt n (j / 2) / 16 else byt n (j / 2) % 16
/-- The sign at place j of a number's text. -/
def sgn (n j : Nat) : Nat := hexd (nib n j)
def prA (n k : Nat) : Array Value := Array.ofFn (n := 32) fun j => Value.int .u8 ((if j.val < 2 * k then sgn n j else 0 : Nat) : Int)
theorem prA_size (n k : Nat) : (prA n k).size = 32 := by simp [prA]
theorem zero52 (w : World) : (zeroValue 52).run Try.prog w = .ok (.agg (prA 0 0)) w := by rw [Try.zeroValue52]; rfl
theorem prA_0 (n : Nat) : prA n 0 = prA 0 0 := by
  unfold prA
  congr 1
theorem hexAt (k : Nat) (hk : k < 16) (w : World) : (Instr.index 9 (.string { data := #[48, 49, 50, 51, 52, 53, 54, 55, 56, 57, 97, 98, 99, 100, 101, 102] }) (.int .u8 (k : Int))).run Try.prog w = .ok (.int .u8 (hexd k : Int)) w := by
  have h : ∀ k : Nat, k < 16 → ((⟨#[48, 49, 50, 51, 52, 53, 54, 55, 56, 57, 97, 98, 99, 100, 101, 102]⟩ : ByteArray)[k]?) = some (UInt8.ofNat (hexd k)) := by decide
  have h2 : ∀ k : Nat, k < 16 → (UInt8.ofNat (hexd k)).toNat = hexd k := by decide
  have hs := run_underlying Try.underlying9 w
  simp [Instr.index, asIntOf, hs, h k hk, h2 k hk]
theorem run_hexAt {o : Oper} {A : Act} (x y : Operand) (ho : o.op = .index 9 x y) (k : Nat) (hk : k < 16) (hx : A.eval x = .string { data := #[48, 49, 50, 51, 52, 53, 54, 55, 56, 57, 97, 98, 99, 100, 101, 102] }) (hy : A.eval y = .int .u8 (k : Int)) (w : World) : (execOp A.eval o).run Try.prog w = .ok (.value (.int .u8 (hexd k : Int))) w := by
  unfold execOp
  simp only [ho, hx, hy, Sem.run_bind, hexAt k hk w, Result.andThen_ok, Sem.run_pure]
theorem run_shr4 {o : Oper} {A : Act} (x y : Operand) (t2 : TypeId) (ho : o.op = .binOp .shr 5 x y t2) (X : Nat) (hx : A.eval x = .int .u8 (X : Int)) (hy : A.eval y = .int .u64 4) (w : World) : (execOp A.eval o).run Try.prog w = .ok (.value (.int .u8 ((X / 16 : Nat) : Int))) w := by
  unfold execOp
  simp only [ho, hx, hy]
  simp [go_sem]
theorem and_15 : ∀ X : Nat, X < 256 → bits BinOp.and IntKind.u8 (X : Int) 15 = ((X % 16 : Nat) : Int) := by
  have h : ∀ X : Fin 256, bits BinOp.and IntKind.u8 (X.val : Int) 15 = ((X.val % 16 : Nat) : Int) := by decide +kernel
  exact fun X hX => h ⟨X, hX⟩
theorem run_and15 {o : Oper} {A : Act} (x y : Operand) (t2 : TypeId) (ho : o.op = .binOp .and 5 x y t2) (X : Nat) (hX : X < 256) (hx : A.eval x = .int .u8 (X : Int)) (hy : A.eval y = .int .u8 15) (w : World) : (execOp A.eval o).run Try.prog w = .ok (.value (.int .u8 ((X % 16 : Nat) : Int))) w := by
  have h := and_15 X hX
  unfold execOp
  simp only [ho, hx, hy]
  simp [go_sem] at h ⊢
  exact h
theorem prA_get (n k i : Nat) (h : i < 32) : (prA n k)[i]? = some (.int .u8 ((if i < 2 * k then sgn n i else 0 : Nat) : Int)) := by simp [prA, h]
theorem set_sgn (n k : Nat) (hk : k < 16) : ((prA n k).setIfInBounds (2 * k) (.int .u8 (hexd (byt n k / 16) : Int))).setIfInBounds (2 * k + 1) (.int .u8 (hexd (byt n k % 16) : Int)) = prA n (k + 1) := by
  apply Array.ext_getElem?
  intro i
  by_cases hi : i < 32
  · rw [Array.getElem?_setIfInBounds, Array.size_setIfInBounds, Array.getElem?_setIfInBounds, prA_size, prA_get _ _ _ hi, prA_get _ _ _ hi]
    by_cases e1 : 2 * k + 1 = i
    · rw [if_pos e1, if_pos (by omega), if_pos (by omega)]
      subst e1
      have h2 : (2 * k + 1) / 2 = k := by omega
      have h3 : (2 * k + 1) % 2 = 1 := by omega
      unfold sgn nib
      rw [h2, h3, if_neg (by omega)]
    · rw [if_neg e1]
      by_cases e2 : 2 * k = i
      · rw [if_pos e2, if_pos (by omega), if_pos (by omega)]
        subst e2
        have h2 : 2 * k / 2 = k := by omega
        have h3 : 2 * k % 2 = 0 := by omega
        unfold sgn nib
        rw [h2, h3, if_pos rfl]
      · rw [if_neg e2]
        by_cases e3 : i < 2 * k
        · rw [if_pos e3, if_pos (by omega)]
        · rw [if_neg e3, if_neg (by omega)]
  · rw [Array.getElem?_eq_none (by simp [prA_size]; omega), Array.getElem?_eq_none (by simp [prA_size]; omega)]
theorem run_conv_op {o : Oper} {A : Act} {w : World} {s d : TypeId} (x : Operand) (ho : o.op = .convert s d x) (u : Value) (hx : A.eval x = u) (v : Value) (h : (convert s d u).run Try.prog w = .ok v w) : (execOp A.eval o).run Try.prog w = .ok (.value v) w := by
  unfold execOp
  simp only [ho, hx, Sem.run_bind, h, Result.andThen_ok, Sem.run_pure]
/-- A number's text. -/
def printB (n : Nat) : ByteArray := ((List.range 32).map fun j => (sgn n j : Int)).foldl (fun r x => r.push (UInt8.ofNat x.toNat)) ByteArray.empty
theorem prA_list (n : Nat) : prA n 16 = (((List.range 32).map fun j => (sgn n j : Int)).map (Value.int .u8)).toArray := by
  apply Array.ext
  · simp [prA]
  · intro i h1 h2
    simp [prA]
set_option maxHeartbeats 400000 in
theorem print_any (n : Nat) (w : World) :
    Calls Try.prog 26 #[idV n] w fun e w' => e = .returned (.string (printB n)) ∧ Gro w w' := by
  have GG : Gro w w := Gro.refl w
  unfold idV
  go_enter Try.func26, Try.ntmps26
  go_wp2_with (first | (with_reducible refine wpList_at ?_; first | (refine wpList_box_d 1 rfl rfl 23 _ rfl _ rfl ?_; intro w1 g1 G1 e1 k1; have b1 := size_base GG e1; replace GG := GG.trans G1; clear G1 e1; (try simp only [Act.put, List.setIfInBounds_toArray, List.set_cons_zero, List.set_cons_succ])) | (refine wpList_alloc_d 3 rfl rfl 52 rfl _ zero52 ?_; intro w2 g2 G2 e2 k2; have b2 := size_base GG e2; (try have d12 := lt_new k1 e2); (try replace k1 := G2.has k1); replace GG := GG.trans G2; clear G2 e2; (try simp only [Act.put, List.setIfInBounds_toArray, List.set_cons_zero, List.set_cons_succ])) | (refine wpList_load_row rfl 23 _ rfl _ rfl 23 _ (0, 0) _ (by first | exact k1) Try.underlying23 rfl (size23' _) ?_; (try simp only [Act.put, List.setIfInBounds_toArray, List.set_cons_zero, List.set_cons_succ]))))
  go_loopw [7] (fun i wr => ∃ k : Nat, k ≤ 16 ∧ i = .int .i64 k ∧ Below g2 w2 wr ∧ wr.heap[g2]? = some (.cells (prA n k) 52 (0, 0))) (fun i _ => 16 - (intOf i).toNat)
  case atStart => exact ⟨0, by omega, rfl, Below.refl _ _, by rw [k2, prA_0 n]⟩
  case round =>
    rename_i wr
    obtain ⟨k, hk, rfl, hb, hw⟩ := hrel
    clear k1 k2
    cases hlt : decide ((k : Int) < 16)
    · have e16 : k = 16 := by simp at hlt; omega
      subst e16
      have hl : (loadCells ⟨g2, 0, none⟩ 32).run Try.prog wr = .ok (((List.range 32).map fun j => (sgn n j : Int)).map (Value.int .u8)).toArray wr := by
        have h := run_loadCells_list (P := Try.prog) wr ⟨g2, 0, none⟩ (prA n 16).toList (fun j v hv => by
          have hadd : (⟨g2, 0, none⟩ : Addr).add j = ⟨g2, j, none⟩ := by unfold Addr.add; split <;> simp_all
          rw [hadd, cell_of_row wr g2 j _ 52 _ hw]
          simpa using hv)
        have e : (prA n 16).toList.length = 32 := by simp [prA]
        rw [e, Array.toArray_toList, prA_list] at h
        exact h
      have hcv := (run_convert_bytes_string (P := Try.prog) wr 53 9 5 (some ⟨g2, 0, none⟩) 32 32 Try.underlying53 Try.underlying5 Try.underlying9).trans (run_bytesToString wr ⟨g2, 0, none⟩ 32 32 _ hl)
      clear hl
      have HB : Hid (printB n = ((List.range 32).map fun j => (sgn n j : Int)).foldl (fun r x => r.push (UInt8.ofNat x.toNat)) ByteArray.empty) := rfl
      rw [← HB.out] at hcv
      go_wp2_with (with_reducible refine wpList_at ?_; refine wpList_value_d 26 rfl rfl (.string (printB n)) (run_conv_op _ rfl _ rfl _ hcv) ?_)
      go_ret
      exact ⟨rfl, Below.trans GG (hb.mono b2)⟩
    · have hk16 : k < 16 := by simp at hlt; omega
      have hi := run_index_id n k hk16
      have hX := byt_lt n k
      have HS : Hid (((prA n k).setIfInBounds (2 * k) (.int .u8 (hexd (byt n k / 16) : Int))).setIfInBounds (2 * k + 1) (.int .u8 (hexd (byt n k % 16) : Int)) = prA n (k + 1)) := set_sgn n k hk16
      have hq1 : byt n k / 16 < 16 := by omega
      have hq2 : byt n k % 16 < 16 := by omega
      have HZ : Hid ((prA n k).size = 32) := prA_size n k
      generalize byt n k = X at *
      generalize hQ1 : X / 16 = Q1 at *
      generalize hQ2 : X % 16 = Q2 at *
      have V1 : ∀ {o : Oper} {A : Act} (x y : Operand) (t2 : TypeId) (_ : o.op = .binOp .shr 5 x y t2) (_ : A.eval x = .int .u8 (X : Int)) (_ : A.eval y = .int .u64 4) (w : World), (execOp A.eval o).run Try.prog w = .ok (.value (.int .u8 (Q1 : Int))) w := fun x y t2 h1 h2 h3 w => by rw [← hQ1]; exact run_shr4 x y t2 h1 X h2 h3 w
      have V2 : ∀ {o : Oper} {A : Act} (x y : Operand) (t2 : TypeId) (_ : o.op = .binOp .and 5 x y t2) (_ : A.eval x = .int .u8 (X : Int)) (_ : A.eval y = .int .u8 15) (w : World), (execOp A.eval o).run Try.prog w = .ok (.value (.int .u8 (Q2 : Int))) w := fun x y t2 h1 h2 h3 w => by rw [← hQ2]; exact run_and15 x y t2 h1 X hX h2 h3 w
      have W1 : Hid (∀ {o : Oper} {A : Act} (x y : Operand) (t2 : TypeId) (_ : o.op = .binOp .shr 5 x y t2) (_ : A.eval x = .int .u8 (X : Int)) (_ : A.eval y = .int .u64 4) (w : World), (execOp A.eval o).run Try.prog w = .ok (.value (.int .u8 (Q1 : Int))) w) := V1
      have W2 : Hid (∀ {o : Oper} {A : Act} (x y : Operand) (t2 : TypeId) (_ : o.op = .binOp .and 5 x y t2) (_ : A.eval x = .int .u8 (X : Int)) (_ : A.eval y = .int .u8 15) (w : World), (execOp A.eval o).run Try.prog w = .ok (.value (.int .u8 (Q2 : Int))) w) := V2
      clear V1 V2 hQ1 hQ2
      have hwN := hw
      have hbN := hb
      go_wp2_with (with_reducible refine wpList_at ?_; first | (refine wpList_value_d 14 rfl rfl (.int .u8 (Q1 : Int)) (Hid.out W1 _ _ _ rfl rfl rfl _) ?_; simp only [Act.put, List.setIfInBounds_toArray, List.set_cons_zero, List.set_cons_succ]) | (refine wpList_value_d 21 rfl rfl (.int .u8 (Q2 : Int)) (Hid.out W2 _ _ _ rfl rfl rfl _) ?_; simp only [Act.put, List.setIfInBounds_toArray, List.set_cons_zero, List.set_cons_succ]) | (refine wpList_value_d 15 rfl rfl (.int .u8 (hexd Q1 : Int)) (run_hexAt _ _ rfl Q1 hq1 rfl rfl _) ?_; simp only [Act.put, List.setIfInBounds_toArray, List.set_cons_zero, List.set_cons_succ]) | (refine wpList_value_d 22 rfl rfl (.int .u8 (hexd Q2 : Int)) (run_hexAt _ _ rfl Q2 hq2 rfl rfl _) ?_; simp only [Act.put, List.setIfInBounds_toArray, List.set_cons_zero, List.set_cons_succ]) | (refine wpList_store_cell rfl rfl 5 _ _ rfl _ _ rfl _ _ rfl 52 _ hwN size5 ?_ _ rfl ?_; (simp only [Array.size_setIfInBounds, HZ.out]; omega); intro w5 hstN; replace hwN := hstN.new; replace hbN := hbN.trans (hstN.below (Nat.le_refl _)); clear hstN))
      rw [HS.out] at hwN
      clear HS W1 W2
      go_light
      go_roundw
      case rel => exact ⟨k + 1, by omega, by go_num, hbN, hwN⟩
      case measure => simp [intOf]; omega
end Go.Proofs.Ytaeiphdbdmaapaa
