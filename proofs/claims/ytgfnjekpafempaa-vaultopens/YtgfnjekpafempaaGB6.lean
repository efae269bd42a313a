/- Wire: numbers, and texts, one behind the other. -/
import Derived.Test.YtgfnjekpafempaaGX1
import Derived.Test.YtgfnjekpafempaaGQ0
namespace Go.Proofs.Ytgfnjekpafempaa
open Go.RowKit
theorem UG (x : Nat) : (numL x).length ≤ 9 := by have := yw x; rw [yk]; omega
theorem YX : ∀ l : List Nat, (putN l).length ≤ 9 * l.length
  | [] => by simp [putN]
  | x :: l => by
    have := YX l
    have h := UG x
    simp only [putN, List.flatMap_cons, List.length_append, List.length_cons] at *
    omega
theorem yu {α : Type} [Inhabited α] (l : List α) (d : α) (k : Nat) (h : k < l.length) : l.take (k + 1) = l.take k ++ [l.getD k d] := by
  rw [List.take_add_one, List.getD_eq_getElem?_getD, List.getElem?_eq_getElem h]
  rfl
theorem QB (l : List Nat) (k : Nat) (h : k < l.length) : putN (l.take (k + 1)) = putN (l.take k) ++ numL (l.getD k 0) := by
  rw [yu l 0 k h]
  simp [putN]
theorem QA (l : List (List Nat)) (k : Nat) (h : k < l.length) : putT (l.take (k + 1)) = (putT (l.take k) ++ numL (l.getD k []).length) ++ l.getD k [] := by
  rw [yu l [] k h]
  simp [putT, textL]
theorem jad (l : List (List Nat)) (k : Nat) : (putT (l.take k)).length ≤ (putT l).length := by
  conv => rhs; rw [← List.take_append_drop k l]
  simp only [putT, List.flatMap_append, List.length_append]
  omega
theorem up {α : Type} (l : List α) (d : α) (k : Nat) (h : k < l.length) : l.getD k d ∈ l := by
  rw [List.getD_eq_getElem?_getD, List.getElem?_eq_getElem h]
  exact List.getElem_mem h
theorem NC.lim {w : World} {ao : Option Addr} {cap : Nat} {l : List Nat} (h : NC w .u64 ao cap l) {j : Nat} (hj : j < l.length) : l.getD j 0 < lim := by
  have := h.wf _ (up l 0 j hj)
  rw [UK] at this
  unfold Go.Proofs.Ytgfnjekpafempaa.lim
  omega
set_option maxHeartbeats 1600000 in
theorem uE (ao : Option Addr) (cap : Nat) (l : List Nat) (w : World) (HC : NC w .u64 ao cap l) (hlen : 9 * l.length ≤ 140737488355000) : Calls Try.prog 48 #[.slice ao l.length cap] w (AppP w w.heap.size (putN l)) := by
  obtain ⟨B, hB⟩ : ∃ B, w.heap.size = B := ⟨_, rfl⟩
  have HB : Shut (w.heap.size = B) := ⟨hB⟩
  have hBw : B ≤ w.heap.size := by omega
  rw [hB]
  clear hB
  go_enter Try.func48, Try.ntmps48
  go_wp2
  go_loopw [3, 8] (fun v i wr => ∃ (j : Nat) (ao : Option Addr) (cap : Nat) (L : List Nat), j ≤ l.length ∧ i = .int .i64 (j : Int) ∧ v = .slice ao L.length cap ∧ Shut (L = putN (l.take j)) ∧ OB wr 5 .u8 B ao cap L ∧ Below B w wr) (fun _ i _ => l.length - (intOf i).toNat)
  case atStart => exact ⟨0, none, 0, [], by omega, rfl, rfl, ⟨by simp [putN]⟩, OB.nil _ _ _ _, Below.refl _ _⟩
  case round =>
    rename_i wr
    obtain ⟨j, ao1, cap1, L, hj, rfl, rfl, EL, HO, BB⟩ := hrel
    have hLl : L.length ≤ 9 * j := by have := YX (l.take j); rw [EL.out]; rw [List.length_take] at this; omega
    cases hlt : decide ((j : Int) < (l.length : Int))
    · have ej : j = l.length := by simp at hlt; omega
      have EF : Shut (L = putN l) := ⟨by rw [EL.out, ej, List.take_length]⟩
      clear ej
      go_wp2_with (first | (with_reducible refine jw ?_; first | (refine jc 9 rfl rfl (.bool false) (jK _ _ _ rfl (j : Int) (l.length : Int) rfl rfl false hlt _) ?_; (try simp only [Act.put, List.setIfInBounds_toArray, List.set_cons_zero, List.set_cons_succ]))))
      go_ret
      exact ⟨ao1, cap1, L, rfl, EF, HO, BB⟩
    · have hjl : j < l.length := by simp at hlt; omega
      have HE : Shut _ := ⟨QB l j hjl⟩
      have hx := HC.lim hjl
      obtain ⟨ad, rfl, hc⟩ := HC.at hjl
      replace hc : Shut (wr.cell? (ad.add j) = _) := ⟨(World.cell?_of_block (BB.block _ (by rw [← HB.out]; exact World.block_lt_of_cell? w _ hc))).trans hc⟩
      obtain ⟨x, hx'⟩ : ∃ x, l.getD j 0 = x := ⟨_, rfl⟩
      rw [hx'] at HE hx hc
      clear hx'
      have HX : Shut (x < lim) := ⟨hx⟩
      clear hx
      go_wp2_with (first | (go_at_call 73; refine (uy x HX.out ao1 cap1 L B wr HO (Nat.le_trans hBw BB.size) (by omega)).mono ?_; rintro e wN ⟨ao3, cap3, L3, rfl, E3, HO3, B3⟩) | (with_reducible refine jw ?_; first | (refine jc 9 rfl rfl (.bool true) (jK _ _ _ rfl (j : Int) (l.length : Int) rfl rfl true hlt _) ?_; (try simp only [Act.put, List.setIfInBounds_toArray, List.set_cons_zero, List.set_cons_succ])) | (refine jc 10 rfl rfl (.pointer (some (ad.add j))) (zd uT _ _ rfl ad l.length cap j rfl rfl hjl _) ?_; (try simp only [Act.put, List.setIfInBounds_toArray, List.set_cons_zero, List.set_cons_succ])) | (refine jc 11 rfl rfl (.int .u64 (x : Int)) (zo uT _ rfl (ad.add j) rfl _ _ hc.out) ?_; (try simp only [Act.put, List.setIfInBounds_toArray, List.set_cons_zero, List.set_cons_succ]))))
      go_light
      go_roundw
      case rel => exact ⟨j + 1, ao3, cap3, L3, by omega, by go_num, rfl, ⟨by rw [E3.out, EL.out, HE.out]⟩, HO3, Below.trans BB B3⟩
      case measure => simp [intOf]; omega
/-! ### Rows of texts -/
theorem zT {o : Oper} {A : Act} (x y : Operand) (ho : o.op = .indexAddr 22 x y) (ad : Addr) (n cap j : Nat) (hx : A.eval x = .slice (some ad) n cap) (hy : A.eval y = .int .i64 (j : Int)) (hj : j < n) (w : World) :
    (execOp A.eval o).run Try.prog w = .ok (.value (.pointer (some (ad.add j)))) w := by
  have h : (Instr.indexAt 22 (.slice (some ad) n cap) (.int .i64 (j : Int))).run Try.prog w = .ok (.pointer (some (ad.add j))) w := by
    simp only [Instr.indexAt, Sem.run_bind, run_underlying Try.underlying22, Result.andThen_ok]
    simp [asIntOf, hj]
  unfold execOp
  simp only [ho, hx, hy, Sem.run_bind, h, Result.andThen_ok, Sem.run_pure]
theorem yi {o : Oper} {A : Act} (x : Operand) (ho : o.op = .load 30 x) (p : Addr) (hx : A.eval x = .pointer (some p)) (w : World) (v : Value) (hc : w.cell? p = some v) :
    (execOp A.eval o).run Try.prog w = .ok (.value v) w := by
  unfold execOp
  simp only [ho, hx]
  simp [go_sem, hc]
theorem conv325 {o : Oper} {A : Act} (x : Operand) (ho : o.op = .convert 3 75 x) (n : Nat) (hn : n < lim) (hx : A.eval x = .int .i64 (n : Int)) (w : World) : (execOp A.eval o).run Try.prog w = .ok (.value (.int .u64 (n : Int))) w := by
  have h : IntKind.u64.wrap (n : Int) = (n : Int) := by
    unfold lim at hn
    simp [IntKind.wrap, IntKind.bits, IntKind.signed]
    omega
  unfold execOp
  simp only [ho, hx]
  simp [go_sem, h]
set_option maxHeartbeats 1600000 in
theorem YW (ao : Option Addr) (cap : Nat) (l : List (List Nat)) (w : World) (HC : LC w ao cap l) (hlen : (putT l).length ≤ 140737488355000) (hll : l.length ≤ 140737488355000) : Calls Try.prog 49 #[.slice ao l.length cap] w (AppP w w.heap.size (putT l)) := by
  obtain ⟨B, hB⟩ : ∃ B, w.heap.size = B := ⟨_, rfl⟩
  have HB : Shut (w.heap.size = B) := ⟨hB⟩
  have hBw : B ≤ w.heap.size := by omega
  rw [hB]
  have HLE : Shut ((putT l).length ≤ 140737488355000) := ⟨hlen⟩
  clear hB hlen
  go_enter Try.func49, Try.ntmps49
  go_wp2
  go_loopw [3, 8] (fun v i wr => ∃ (j : Nat) (ao : Option Addr) (cap : Nat) (L : List Nat), j ≤ l.length ∧ i = .int .i64 (j : Int) ∧ v = .slice ao L.length cap ∧ Shut (L = putT (l.take j)) ∧ OB wr 5 .u8 B ao cap L ∧ Below B w wr) (fun _ i _ => l.length - (intOf i).toNat)
  case atStart => exact ⟨0, none, 0, [], by omega, rfl, rfl, ⟨by simp [putT]⟩, OB.nil _ _ _ _, Below.refl _ _⟩
  case round =>
    rename_i wr
    obtain ⟨j, ao1, cap1, L, hj, rfl, rfl, EL, HO, BB⟩ := hrel
    cases hlt : decide ((j : Int) < (l.length : Int))
    · have ej : j = l.length := by simp at hlt; omega
      have EF : Shut (L = putT l) := ⟨by rw [EL.out, ej, List.take_length]⟩
      clear ej
      go_wp2_with (first | (with_reducible refine jw ?_; first | (refine jc 9 rfl rfl (.bool false) (jK _ _ _ rfl (j : Int) (l.length : Int) rfl rfl false hlt _) ?_; (try simp only [Act.put, List.setIfInBounds_toArray, List.set_cons_zero, List.set_cons_succ]))))
      go_ret
      exact ⟨ao1, cap1, L, rfl, EF, HO, BB⟩
    · have hjl : j < l.length := by simp at hlt; omega
      have HE : Shut _ := ⟨QA l j hjl⟩
      have hL1 := jad l (j + 1)
      rw [HE.out, ← EL.out, List.length_append, List.length_append] at hL1
      have h140 := HLE.out
      obtain ⟨ad, ao2, cap2, rfl, hc, hs⟩ := HC.at hjl
      replace hc : Shut (wr.cell? (ad.add j) = _) := ⟨(World.cell?_of_block (BB.block _ (by rw [← HB.out]; exact World.block_lt_of_cell? w _ hc))).trans hc⟩
      obtain ⟨x, hx'⟩ : ∃ x, l.getD j [] = x := ⟨_, rfl⟩
      rw [hx'] at HE hc hs hL1
      clear hx'
      have hx : x.length < lim := by unfold lim; omega
      have HX : Shut (x.length < lim) := ⟨hx⟩
      have hA : L.length ≤ 140737488355000 := by omega
      have hC : L.length + (numL x.length).length + x.length ≤ 140737488355000 := by omega
      have HA : Shut _ := ⟨hA⟩
      have HD : Shut _ := ⟨hC⟩
      clear hx h140 hL1 hA hC
      go_wp2_with (first | (go_at_call 73; refine (uy x.length HX.out ao1 cap1 L B wr HO (Nat.le_trans hBw BB.size) HA.out).mono ?_; rintro e wN ⟨ao3, cap3, L3, rfl, E3, HO3, B3⟩) | (with_reducible refine jw ?_; first | (refine jc 9 rfl rfl (.bool true) (jK _ _ _ rfl (j : Int) (l.length : Int) rfl rfl true hlt _) ?_; (try simp only [Act.put, List.setIfInBounds_toArray, List.set_cons_zero, List.set_cons_succ])) | (refine jc 10 rfl rfl (.pointer (some (ad.add j))) (zT _ _ rfl ad l.length cap j rfl rfl hjl _) ?_; (try simp only [Act.put, List.setIfInBounds_toArray, List.set_cons_zero, List.set_cons_succ])) | (refine jc 11 rfl rfl (.slice ao2 x.length cap2) (yi _ rfl (ad.add j) rfl _ _ hc.out) ?_; (try simp only [Act.put, List.setIfInBounds_toArray, List.set_cons_zero, List.set_cons_succ])) | (refine jc 15 rfl rfl (.int .u64 (x.length : Int)) (conv325 _ rfl x.length HX.out rfl _) ?_; (try simp only [Act.put, List.setIfInBounds_toArray, List.set_cons_zero, List.set_cons_succ])) | (refine yc rfl ?_)))
      constructor
      have BBN := Below.trans BB B3
      have hsN : NC wN .u8 ao2 cap2 x := hs.gro (by rw [← HB.out] at BBN; exact BBN)
      refine ya bT 19 rfl rfl _ _ rfl rfl HO3 rfl hsN (by rw [E3.out, List.length_append, Nat.mul_one]; have := HD.out; omega) (by decide) (Nat.le_trans hBw BBN.size) ?_
      intro ao4 cap4 L4 w4 E4 HO4 B4
      clear B3 HO3 HO hsN
      simp only [Act.put, List.setIfInBounds_toArray, List.set_cons_zero, List.set_cons_succ]
      go_wp2
      go_light
      go_roundw
      case rel => exact ⟨j + 1, ao4, cap4, L4, by omega, by go_num, rfl, ⟨by rw [E4.out, E3.out, EL.out, HE.out]⟩, HO4, Below.trans BBN B4⟩
      case measure => simp [intOf]; omega
end Go.Proofs.Ytgfnjekpafempaa
namespace Go.Proofs.Ytgfnjekpafempaa
open Go.RowKit
section
variable {P : Program} {o : Oper} {A : Act}
structure CutOK (P : Program) (t : TypeId) (ao : Option Addr) (n cap i : Nat) (ao1 : Option Addr) (n1 cap1 : Nat) : Prop where
  run : ∀ {o : Oper} {A : Act} (x y : Operand), o.op = .slice t x (some y) none none → A.eval x = .slice ao n cap → A.eval y = .int .i64 (i : Int) → ∀ w, (execOp A.eval o).run P w = .ok (.value (.slice ao1 n1 cap1)) w
theorem NC.cut {t e : TypeId} {k : IntKind} {b : Nat} (T : NumT P t e k b) {w : World} {ao : Option Addr} {cap : Nat} {l : List Nat} (h : NC w k ao cap l) (i : Nat) (hi : i ≤ l.length) :
    ∃ ao1 cap1 L, Shut (L = l.drop i) ∧ NC w k ao1 cap1 L ∧ CutOK P t ao l.length cap i ao1 L.length cap1 :=
  ⟨_, _, l.drop i, ⟨rfl⟩, h.drop i hi, ⟨fun x y ho hx hy w => by rw [uR T x y ho ao l.length cap i hx hy hi w, List.length_drop]⟩⟩
theorem YH (t t2 : TypeId) (x y : Operand) (ho : o.op = .binOp .shl t x y t2) (n : Nat) (hn : n < 72057594037927936) (ky : IntKind) (hx : A.eval x = .int .u64 (n : Int)) (hy : A.eval y = .int ky 8) (w : World) : (execOp A.eval o).run P w = .ok (.value (.int .u64 ((n * 256 : Nat) : Int))) w := by
  refine jD .shl t x y t2 ho _ _ _ hx hy (by simp [eqGuard]) ?_
  have h2 : IntKind.u64.wrap ((n : Int) * 2 ^ min 8 IntKind.u64.bits) = ((n * 256 : Nat) : Int) := by
    have : min 8 IntKind.u64.bits = 8 := rfl
    rw [this]
    simp [IntKind.wrap, IntKind.bits, IntKind.signed]
    omega
  simp [binOp, Op.shift, h2]
theorem jal (a b : Nat) (ha : a < 72057594037927936) (hb : b < 256) : (BitVec.ofInt 64 ((a * 256 : Nat) : Int) ||| BitVec.ofInt 64 (b : Int)).toNat = a * 256 + b := by
  rw [BitVec.ofInt_natCast, BitVec.ofInt_natCast, BitVec.toNat_or, BitVec.toNat_ofNat, BitVec.toNat_ofNat, Nat.mod_eq_of_lt (by omega), Nat.mod_eq_of_lt (by omega)]
  have := Nat.shiftLeft_add_eq_or_of_lt (b := b) (i := 8) (by omega) a
  rw [Nat.shiftLeft_eq, show (2 : Nat) ^ 8 = 256 from rfl] at this
  omega
theorem Ur (t t2 : TypeId) (x y : Operand) (ho : o.op = .binOp .or t x y t2) (a b : Nat) (ha : a < 72057594037927936) (hb : b < 256) (hx : A.eval x = .int .u64 ((a * 256 : Nat) : Int)) (hy : A.eval y = .int .u64 (b : Int)) (r : Nat) (hr : a * 256 + b = r) (w : World) : (execOp A.eval o).run P w = .ok (.value (.int .u64 (r : Int))) w := by
  refine jD .or t x y t2 ho _ _ _ hx hy (by simp [eqGuard]) ?_
  subst hr
  have h2 : IntKind.u64.wrap (((BitVec.ofInt 64 ((a * 256 : Nat) : Int) ||| BitVec.ofInt 64 (b : Int)).toNat : Nat) : Int) = ((a * 256 + b : Nat) : Int) := by
    rw [jal a b ha hb]
    simp [IntKind.wrap, IntKind.bits, IntKind.signed]
    omega
  have e : IntKind.u64.bits = 64 := rfl
  show (Op.intBits .or .u64 ((a * 256 : Nat) : Int) (b : Int)).run P w = _
  unfold Op.intBits
  simp only [Sem.run_pure]
  exact congrArg (fun z => Result.ok (Value.int .u64 z) w) h2
theorem jX (x y : Operand) (t2 : TypeId) (ho : o.op = .binOp .gtr 3 x y t2) (a b : Int) (hx : A.eval x = .int .i64 a) (hy : A.eval y = .int .i64 b) (p : Bool) (hp : decide (b < a) = p) (w : World) : (execOp A.eval o).run P w = .ok (.value (.bool p)) w := by
  subst hp
  refine jD .gtr 3 x y t2 ho _ _ _ hx hy (by simp [eqGuard]) ?_
  simp [go_sem]
theorem zS (x y : Operand) (t2 : TypeId) (ho : o.op = .binOp .leq 3 x y t2) (a b : Int) (hx : A.eval x = .int .i64 a) (hy : A.eval y = .int .i64 b) (p : Bool) (hp : decide (a ≤ b) = p) (w : World) : (execOp A.eval o).run P w = .ok (.value (.bool p)) w := by
  subst hp
  refine jD .leq 3 x y t2 ho _ _ _ hx hy (by simp [eqGuard]) ?_
  simp [go_sem]
end
theorem conv53 {o : Oper} {A : Act} (x : Operand) (ho : o.op = .convert 5 3 x) (n : Nat) (hn : n < 256) (hx : A.eval x = .int .u8 (n : Int)) (w : World) : (execOp A.eval o).run Try.prog w = .ok (.value (.int .i64 (n : Int))) w := by
  have h := yg (n : Int) (by omega) (by omega)
  unfold execOp
  simp only [ho, hx]
  simp [convert, go_sem, Conv.intToInt, h]
theorem conv525 {o : Oper} {A : Act} (x : Operand) (ho : o.op = .convert 5 75 x) (n : Nat) (hn : n < 256) (hx : A.eval x = .int .u8 (n : Int)) (w : World) : (execOp A.eval o).run Try.prog w = .ok (.value (.int .u64 (n : Int))) w := by
  have h : IntKind.u64.wrap (n : Int) = (n : Int) := by
    simp [IntKind.wrap, IntKind.bits, IntKind.signed]
    omega
  unfold execOp
  simp only [ho, hx]
  simp [go_sem, h]
theorem zD (ao : Option Addr) (n cap : Nat) (i : Int) (w : World) : Calls Try.prog 78 #[.slice ao n cap, .int .i64 i] w fun e w' => e = .returned (.bool (decide (0 ≤ i ∧ i ≤ (n : Int)))) ∧ w' = w := by
  by_cases h : 0 ≤ i
  · go_enter Try.func78, Try.ntmps78
    go_wp2
    go_ret
    refine ⟨?_, rfl⟩
    simp [h]
  · go_enter Try.func78, Try.ntmps78
    go_wp2
    go_ret
    refine ⟨?_, rfl⟩
    simp
    omega
end Go.Proofs.Ytgfnjekpafempaa
