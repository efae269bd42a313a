import Derived.Test.YtgfnjekpafempaaGreatBX1
import Derived.Test.YtgfnjekpafempaaGreatBQ0
namespace Go.Proofs.YtgfnjekpafempaaGreat
open Go.Proofs.Tryz
open Go.RowKit
theorem Vg (x : Nat) : (numL x).length ≤ 9 := by have := zL x; rw [zG]; omega
theorem Uj : ∀ l : List Nat, (putN l).length ≤ 9 * l.length
  | [] => by simp [putN]
  | x :: l => by
    have := Uj l
    have h := Vg x
    simp only [putN, List.flatMap_cons, List.length_append, List.length_cons] at *
    omega
theorem yA {α : Type} [Inhabited α] (l : List α) (d : α) (k : Nat) (h : k < l.length) : l.take (k + 1) = l.take k ++ [l.getD k d] := by
  rw [List.take_add_one, List.getD_eq_getElem?_getD, List.getElem?_eq_getElem h]
  rfl
theorem KZ (l : List Nat) (k : Nat) (h : k < l.length) : putN (l.take (k + 1)) = putN (l.take k) ++ numL (l.getD k 0) := by
  rw [yA l 0 k h]
  simp [putN]
theorem KY (l : List (List Nat)) (k : Nat) (h : k < l.length) : putT (l.take (k + 1)) = (putT (l.take k) ++ numL (l.getD k []).length) ++ l.getD k [] := by
  rw [yA l [] k h]
  simp [putT, textL]
theorem jda (l : List (List Nat)) (k : Nat) : (putT (l.take k)).length ≤ (putT l).length := by
  conv => rhs; rw [← List.take_append_drop k l]
  simp only [putT, List.flatMap_append, List.length_append]
  omega
theorem uJ {α : Type} (l : List α) (d : α) (k : Nat) (h : k < l.length) : l.getD k d ∈ l := by
  rw [List.getD_eq_getElem?_getD, List.getElem?_eq_getElem h]
  exact List.getElem_mem h
theorem NC.lim {w : World} {ao : Option Addr} {cap : Nat} {l : List Nat} (h : NC w .u64 ao cap l) {j : Nat} (hj : j < l.length) : l.getD j 0 < lim := by
  have := h.wf _ (uJ l 0 j hj)
  rw [Kb] at this
  unfold Go.Proofs.YtgfnjekpafempaaGreat.lim
  omega
set_option maxHeartbeats 1600000 in
theorem Ja (ao : Option Addr) (cap : Nat) (l : List Nat) (w : World) (HC : NC w .u64 ao cap l) (hlen : 9 * l.length ≤ 140737488355000) : Calls Tryz.prog 53 #[.slice ao l.length cap] w (AppP w w.heap.size (putN l)) := by
  obtain ⟨B, hB⟩ : ∃ B, w.heap.size = B := ⟨_, rfl⟩
  have HB : Shut (w.heap.size = B) := ⟨hB⟩
  have hBw : B ≤ w.heap.size := by omega
  rw [hB]
  clear hB
  go_enter func53, ntmps53
  go_wp2
  go_loopw [3, 8] (fun v i wr => ∃ (j : Nat) (ao : Option Addr) (cap : Nat) (L : List Nat), j ≤ l.length ∧ i = .int .i64 (j : Int) ∧ v = .slice ao L.length cap ∧ Shut (L = putN (l.take j)) ∧ OB wr 5 .u8 B ao cap L ∧ Below B w wr) (fun _ i _ => l.length - (intOf i).toNat)
  case atStart => exact ⟨0, none, 0, [], by omega, rfl, rfl, ⟨by simp [putN]⟩, OB.nil _ _ _ _, Below.refl _ _⟩
  case round =>
    rename_i wr
    obtain ⟨j, ao1, cap1, L, hj, rfl, rfl, EL, HO, BB⟩ := hrel
    have hLl : L.length ≤ 9 * j := by have := Uj (l.take j); rw [EL.out]; rw [List.length_take] at this; omega
    cases hlt : decide ((j : Int) < (l.length : Int))
    · have ej : j = l.length := by simp at hlt; omega
      have EF : Shut (L = putN l) := ⟨by rw [EL.out, ej, List.take_length]⟩
      clear ej
      go_wp2_with (first | (with_reducible refine jx ?_; first | (refine jc 9 rfl rfl (.bool false) (jI _ _ _ rfl (j : Int) (l.length : Int) rfl rfl false hlt _) ?_; (try simp only [Act.put, List.setIfInBounds_toArray, List.set_cons_zero, List.set_cons_succ]))))
      go_ret
      exact ⟨ao1, cap1, L, rfl, EF, HO, BB⟩
    · have hjl : j < l.length := by simp at hlt; omega
      have HE : Shut _ := ⟨KZ l j hjl⟩
      have hx := HC.lim hjl
      obtain ⟨ad, rfl, hc⟩ := HC.at hjl
      replace hc : Shut (wr.cell? (ad.add j) = _) := ⟨(World.cell?_of_block (BB.block _ (by rw [← HB.out]; exact World.block_lt_of_cell? w _ hc))).trans hc⟩
      obtain ⟨x, hx'⟩ : ∃ x, l.getD j 0 = x := ⟨_, rfl⟩
      rw [hx'] at HE hx hc
      clear hx'
      have HX : Shut (x < lim) := ⟨hx⟩
      clear hx
      go_wp2_with (first | (go_at_call 73; refine (uU x HX.out ao1 cap1 L B wr HO (Nat.le_trans hBw BB.size) (by omega)).mono ?_; rintro e wN ⟨ao3, cap3, L3, rfl, E3, HO3, B3⟩) | (with_reducible refine jx ?_; (first | (refine jc 9 rfl rfl (.bool true) (jI _ _ _ rfl (j : Int) (l.length : Int) rfl rfl true hlt _) ?_) | (refine jc 10 rfl rfl (.pointer (some (ad.add j))) (zf uT _ _ rfl ad l.length cap j rfl rfl hjl _) ?_) | (refine jc 11 rfl rfl (.int .u64 (x : Int)) (zj uT _ rfl (ad.add j) rfl _ _ hc.out) ?_)); (try simp only [Act.put, List.setIfInBounds_toArray, List.set_cons_zero, List.set_cons_succ])))
      go_light
      go_roundw
      case rel => exact ⟨j + 1, ao3, cap3, L3, by omega, by go_num, rfl, ⟨by rw [E3.out, EL.out, HE.out]⟩, HO3, Below.trans BB B3⟩
      case measure => simp [intOf]; omega
/-! ### Rows of texts -/
theorem yg {o : Oper} {A : Act} (x y : Operand) (ho : o.op = .indexAddr 73 x y) (ad : Addr) (n cap j : Nat) (hx : A.eval x = .slice (some ad) n cap) (hy : A.eval y = .int .i64 (j : Int)) (hj : j < n) (w : World) :
    (execOp A.eval o).run Tryz.prog w = .ok (.value (.pointer (some (ad.add j)))) w := by
  have h : (Instr.indexAt 73 (.slice (some ad) n cap) (.int .i64 (j : Int))).run Tryz.prog w = .ok (.pointer (some (ad.add j))) w := by
    simp only [Instr.indexAt, Sem.run_bind, run_underlying underlying73, Result.andThen_ok]
    simp [asIntOf, hj]
  unfold execOp
  simp only [ho, hx, hy, Sem.run_bind, h, Result.andThen_ok, Sem.run_pure]
theorem yB {o : Oper} {A : Act} (x : Operand) (ho : o.op = .load 27 x) (p : Addr) (hx : A.eval x = .pointer (some p)) (w : World) (v : Value) (hc : w.cell? p = some v) :
    (execOp A.eval o).run Tryz.prog w = .ok (.value v) w := by
  unfold execOp
  simp only [ho, hx]
  simp [go_sem, hc]
theorem conv325 {o : Oper} {A : Act} (x : Operand) (ho : o.op = .convert 3 64 x) (n : Nat) (hn : n < lim) (hx : A.eval x = .int .i64 (n : Int)) (w : World) : (execOp A.eval o).run Tryz.prog w = .ok (.value (.int .u64 (n : Int))) w := by
  have h : IntKind.u64.wrap (n : Int) = (n : Int) := by
    unfold lim at hn
    simp [IntKind.wrap, IntKind.bits, IntKind.signed]
    omega
  unfold execOp
  simp only [ho, hx]
  simp [go_sem, h]
set_option maxHeartbeats 1600000 in
theorem Ui (ao : Option Addr) (cap : Nat) (l : List (List Nat)) (w : World) (HC : LC w ao cap l) (hlen : (putT l).length ≤ 140737488355000) (hll : l.length ≤ 140737488355000) : Calls Tryz.prog 78 #[.slice ao l.length cap] w (AppP w w.heap.size (putT l)) := by
  obtain ⟨B, hB⟩ : ∃ B, w.heap.size = B := ⟨_, rfl⟩
  have HB : Shut (w.heap.size = B) := ⟨hB⟩
  have hBw : B ≤ w.heap.size := by omega
  rw [hB]
  have HLE : Shut ((putT l).length ≤ 140737488355000) := ⟨hlen⟩
  clear hB hlen
  go_enter func78, ntmps78
  go_wp2
  go_loopw [3, 8] (fun v i wr => ∃ (j : Nat) (ao : Option Addr) (cap : Nat) (L : List Nat), j ≤ l.length ∧ i = .int .i64 (j : Int) ∧ v = .slice ao L.length cap ∧ Shut (L = putT (l.take j)) ∧ OB wr 5 .u8 B ao cap L ∧ Below B w wr) (fun _ i _ => l.length - (intOf i).toNat)
  case atStart => exact ⟨0, none, 0, [], by omega, rfl, rfl, ⟨by simp [putT]⟩, OB.nil _ _ _ _, Below.refl _ _⟩
  case round =>
    rename_i wr
    obtain ⟨j, ao1, cap1, L, hj, rfl, rfl, EL, HO, BB⟩ := hrel
    cases hlt : decide ((j : Int) < (l.length : Int))
    · have ej : j = l.length := by simp at hlt; omega
      have EF : Shut (L = putT l) := ⟨by rw [EL.out, ej, List.take_length]⟩
      clear ej
      go_wp2_with (first | (with_reducible refine jx ?_; first | (refine jc 9 rfl rfl (.bool false) (jI _ _ _ rfl (j : Int) (l.length : Int) rfl rfl false hlt _) ?_; (try simp only [Act.put, List.setIfInBounds_toArray, List.set_cons_zero, List.set_cons_succ]))))
      go_ret
      exact ⟨ao1, cap1, L, rfl, EF, HO, BB⟩
    · have hjl : j < l.length := by simp at hlt; omega
      have HE : Shut _ := ⟨KY l j hjl⟩
      have hL1 := jda l (j + 1)
      rw [HE.out, ← EL.out, List.length_append, List.length_append] at hL1
      have h140 := HLE.out
      obtain ⟨ad, ao2, cap2, rfl, hc, hs⟩ := HC.at hjl
      replace hc : Shut (wr.cell? (ad.add j) = _) := ⟨(World.cell?_of_block (BB.block _ (by rw [← HB.out]; exact World.block_lt_of_cell? w _ hc))).trans hc⟩
      obtain ⟨x, hx'⟩ : ∃ x, l.getD j [] = x := ⟨_, rfl⟩
      rw [hx'] at HE hc hs hL1
      clear hx'
      have hx : x.length < lim := by unfold lim; omega
      have HX : Shut (x.length < lim) := ⟨hx⟩
      have hA : L.length ≤ 140737488355000 := by omega
      have hC : L.length + (numL x.length).length + x.length ≤ 140737488355000 := by omega
      have HA : Shut _ := ⟨hA⟩
      have HD : Shut _ := ⟨hC⟩
      clear hx h140 hL1 hA hC
      go_wp2_with (first | (go_at_call 73; refine (uU x.length HX.out ao1 cap1 L B wr HO (Nat.le_trans hBw BB.size) HA.out).mono ?_; rintro e wN ⟨ao3, cap3, L3, rfl, E3, HO3, B3⟩) | (with_reducible refine jx ?_; first | (refine jc 9 rfl rfl (.bool true) (jI _ _ _ rfl (j : Int) (l.length : Int) rfl rfl true hlt _) ?_; (try simp only [Act.put, List.setIfInBounds_toArray, List.set_cons_zero, List.set_cons_succ])) | (refine jc 10 rfl rfl (.pointer (some (ad.add j))) (yg _ _ rfl ad l.length cap j rfl rfl hjl _) ?_; (try simp only [Act.put, List.setIfInBounds_toArray, List.set_cons_zero, List.set_cons_succ])) | (refine jc 11 rfl rfl (.slice ao2 x.length cap2) (yB _ rfl (ad.add j) rfl _ _ hc.out) ?_; (try simp only [Act.put, List.setIfInBounds_toArray, List.set_cons_zero, List.set_cons_succ])) | (refine jc 15 rfl rfl (.int .u64 (x.length : Int)) (conv325 _ rfl x.length HX.out rfl _) ?_; (try simp only [Act.put, List.setIfInBounds_toArray, List.set_cons_zero, List.set_cons_succ])) | (refine zR rfl ?_)))
      constructor
      have BBN := Below.trans BB B3
      have hsN : NC wN .u8 ao2 cap2 x := hs.gro (by rw [← HB.out] at BBN; exact BBN)
      refine zS bT 19 rfl rfl _ _ rfl rfl HO3 rfl hsN (by rw [E3.out, List.length_append, Nat.mul_one]; have := HD.out; omega) (by decide) (Nat.le_trans hBw BBN.size) ?_
      intro ao4 cap4 L4 w4 E4 HO4 B4
      clear B3 HO3 HO hsN
      simp only [Act.put, List.setIfInBounds_toArray, List.set_cons_zero, List.set_cons_succ]
      go_wp2
      go_light
      go_roundw
      case rel => exact ⟨j + 1, ao4, cap4, L4, by omega, by go_num, rfl, ⟨by rw [E4.out, E3.out, EL.out, HE.out]⟩, HO4, Below.trans BBN B4⟩
      case measure => simp [intOf]; omega
section
variable {P : Program} {o : Oper} {A : Act}
structure CutOK (P : Program) (t : TypeId) (ao : Option Addr) (n cap i : Nat) (ao1 : Option Addr) (n1 cap1 : Nat) : Prop where
  run : ∀ {o : Oper} {A : Act} (x y : Operand), o.op = .slice t x (some y) none none → A.eval x = .slice ao n cap → A.eval y = .int .i64 (i : Int) → ∀ w, (execOp A.eval o).run P w = .ok (.value (.slice ao1 n1 cap1)) w
theorem NC.cut {t e : TypeId} {k : IntKind} {b : Nat} (T : NumT P t e k b) {w : World} {ao : Option Addr} {cap : Nat} {l : List Nat} (h : NC w k ao cap l) (i : Nat) (hi : i ≤ l.length) :
    ∃ ao1 cap1 L, Shut (L = l.drop i) ∧ NC w k ao1 cap1 L ∧ CutOK P t ao l.length cap i ao1 L.length cap1 :=
  ⟨_, _, l.drop i, ⟨rfl⟩, h.drop i hi, ⟨fun x y ho hx hy w => by rw [Jn T x y ho ao l.length cap i hx hy hi w, List.length_drop]⟩⟩
theorem VQ (t t2 : TypeId) (x y : Operand) (ho : o.op = .binOp .shl t x y t2) (n : Nat) (hn : n < 72057594037927936) (ky : IntKind) (hx : A.eval x = .int .u64 (n : Int)) (hy : A.eval y = .int ky 8) (w : World) : (execOp A.eval o).run P w = .ok (.value (.int .u64 ((n * 256 : Nat) : Int))) w := by
  refine jF .shl t x y t2 ho _ _ _ hx hy (by simp [eqGuard]) ?_
  have h2 : IntKind.u64.wrap ((n : Int) * 2 ^ min 8 IntKind.u64.bits) = ((n * 256 : Nat) : Int) := by
    have : min 8 IntKind.u64.bits = 8 := rfl
    rw [this]
    simp [IntKind.wrap, IntKind.bits, IntKind.signed]
    omega
  simp [binOp, Op.shift, h2]
theorem jdj (a b : Nat) (ha : a < 72057594037927936) (hb : b < 256) : (BitVec.ofInt 64 ((a * 256 : Nat) : Int) ||| BitVec.ofInt 64 (b : Int)).toNat = a * 256 + b := by
  rw [BitVec.ofInt_natCast, BitVec.ofInt_natCast, BitVec.toNat_or, BitVec.toNat_ofNat, BitVec.toNat_ofNat, Nat.mod_eq_of_lt (by omega), Nat.mod_eq_of_lt (by omega)]
  have := Nat.shiftLeft_add_eq_or_of_lt (b := b) (i := 8) (by omega) a
  rw [Nat.shiftLeft_eq, show (2 : Nat) ^ 8 = 256 from rfl] at this
  omega
theorem QN (t t2 : TypeId) (x y : Operand) (ho : o.op = .binOp .or t x y t2) (a b : Nat) (ha : a < 72057594037927936) (hb : b < 256) (hx : A.eval x = .int .u64 ((a * 256 : Nat) : Int)) (hy : A.eval y = .int .u64 (b : Int)) (r : Nat) (hr : a * 256 + b = r) (w : World) : (execOp A.eval o).run P w = .ok (.value (.int .u64 (r : Int))) w := by
  refine jF .or t x y t2 ho _ _ _ hx hy (by simp [eqGuard]) ?_
  subst hr
  have h2 : IntKind.u64.wrap (((BitVec.ofInt 64 ((a * 256 : Nat) : Int) ||| BitVec.ofInt 64 (b : Int)).toNat : Nat) : Int) = ((a * 256 + b : Nat) : Int) := by
    rw [jdj a b ha hb]
    simp [IntKind.wrap, IntKind.bits, IntKind.signed]
    omega
  have e : IntKind.u64.bits = 64 := rfl
  show (Op.intBits .or .u64 ((a * 256 : Nat) : Int) (b : Int)).run P w = _
  unfold Op.intBits
  simp only [Sem.run_pure]
  exact congrArg (fun z => Result.ok (Value.int .u64 z) w) h2
theorem jY (x y : Operand) (t2 : TypeId) (ho : o.op = .binOp .gtr 3 x y t2) (a b : Int) (hx : A.eval x = .int .i64 a) (hy : A.eval y = .int .i64 b) (p : Bool) (hp : decide (b < a) = p) (w : World) : (execOp A.eval o).run P w = .ok (.value (.bool p)) w := by
  subst hp
  refine jF .gtr 3 x y t2 ho _ _ _ hx hy (by simp [eqGuard]) ?_
  simp [go_sem]
theorem zW (x y : Operand) (t2 : TypeId) (ho : o.op = .binOp .leq 3 x y t2) (a b : Int) (hx : A.eval x = .int .i64 a) (hy : A.eval y = .int .i64 b) (p : Bool) (hp : decide (a ≤ b) = p) (w : World) : (execOp A.eval o).run P w = .ok (.value (.bool p)) w := by
  subst hp
  refine jF .leq 3 x y t2 ho _ _ _ hx hy (by simp [eqGuard]) ?_
  simp [go_sem]
end
theorem conv53 {o : Oper} {A : Act} (x : Operand) (ho : o.op = .convert 5 3 x) (n : Nat) (hn : n < 256) (hx : A.eval x = .int .u8 (n : Int)) (w : World) : (execOp A.eval o).run Tryz.prog w = .ok (.value (.int .i64 (n : Int))) w := by
  have h := ya (n : Int) (by omega) (by omega)
  unfold execOp
  simp only [ho, hx]
  simp [convert, go_sem, Conv.intToInt, h]
theorem conv525 {o : Oper} {A : Act} (x : Operand) (ho : o.op = .convert 5 64 x) (n : Nat) (hn : n < 256) (hx : A.eval x = .int .u8 (n : Int)) (w : World) : (execOp A.eval o).run Tryz.prog w = .ok (.value (.int .u64 (n : Int))) w := by
  have h : IntKind.u64.wrap (n : Int) = (n : Int) := by
    simp [IntKind.wrap, IntKind.bits, IntKind.signed]
    omega
  unfold execOp
  simp only [ho, hx]
  simp [go_sem, h]
theorem zC (ao : Option Addr) (n cap : Nat) (i : Int) (w : World) : Calls Tryz.prog 69 #[.slice ao n cap, .int .i64 i] w fun e w' => e = .returned (.bool (decide (0 ≤ i ∧ i ≤ (n : Int)))) ∧ w' = w := by
  by_cases h : 0 ≤ i
  · go_enter func69, ntmps69
    go_wp2
    go_ret
    refine ⟨?_, rfl⟩
    simp [h]
  · go_enter func69, ntmps69
    go_wp2
    go_ret
    refine ⟨?_, rfl⟩
    simp
    omega
theorem ju {P : Program} {ops : Array Oper} {rest : List Oper} {o : Oper} {a : Act} {w : World} {Q : Exit → Act → World → Prop} (dst : Nat) (hd : o.dst = some dst) (hw : Region.wanted o (yielded ops a.tmps) = true) (v : Value) (he : (execOp a.eval o).run P w = .ok (.value v) w)
    (h : wpList P ops Q rest (a.put (some dst) v) w) : wpList P ops Q (o :: rest) a w := by
  unfold wpList
  rw [if_pos hw]
  refine Or.inl ?_
  unfold Oper.wp
  rw [he, Oper.upon_value, hd]
  exact h
theorem un (l : List Nat) (k : Nat) (h : k < l.length) : valL (l.take (k + 1)) = valL (l.take k) * 256 + l.getD k 0 := by
  rw [yA l 0 k h, vu]
theorem yp (q : List Nat) (hq : ∀ x ∈ q, x < 256) (j : Nat) (hj : j ≤ q.length) (h7 : j < 8) : valL (q.take j) < 72057594037927936 := by
  have := uo j (q.take j) (by rw [List.length_take]; omega) fun x hx => hq x (List.mem_of_mem_take hx)
  have h2 : (256 : Nat) ^ j ≤ 256 ^ 7 := Nat.pow_le_pow_right (by decide) (by omega)
  have h3 : (256 : Nat) ^ 7 = 72057594037927936 := by decide
  omega
def NumP (w : World) (r : Nat × Nat × Nat) (e : Ending) (w' : World) : Prop := e = .returned (.tuple #[.int .u64 (r.1 : Int), .int .i64 (r.2.1 : Int), .int .i64 (r.2.2 : Int)]) ∧ w' = w
set_option maxHeartbeats 1600000 in
theorem yt (ao : Option Addr) (cap : Nat) (l : List Nat) (w : World) (HC : NC w .u8 ao cap l) (i : Int) (hlen : l.length < 9223372036854775807) : Calls Tryz.prog 46 #[.slice ao l.length cap, .int .i64 i] w (NumP w (getE l i)) := by
  obtain ⟨R, hR⟩ : ∃ R, getE l i = R := ⟨_, rfl⟩
  have HR : Shut (getE l i = R) := ⟨hR⟩
  rw [hR]
  clear hR
  cases hw : decide (0 ≤ i ∧ i ≤ (l.length : Int))
  · have hR : R = (0, 0, 1) := by
      rw [← HR.out, getE, if_pos]
      simp at hw
      omega
    subst hR
    go_enter func46, ntmps46
    go_wp2_with (first | (go_at_call 69; refine (zC _ _ _ _ _).mono ?_; rintro e wN ⟨rfl, hwN⟩; replace hwN := hwN.symm; subst hwN; rw [hw]))
    go_ret3
    exact ⟨rfl, rfl⟩
  · have hwi : 0 ≤ i ∧ i ≤ (l.length : Int) := by simpa using hw
    obtain ⟨p, rfl⟩ : ∃ p : Nat, i = (p : Int) := ⟨i.toNat, by omega⟩
    have hp : p ≤ l.length := by omega
    have HR2 : Shut (getR p (l.drop p) = R) := ⟨by rw [← HR.out, getE, if_neg (by omega)]; rfl⟩
    clear HR hwi
    obtain ⟨ao1, cap1, L1, E1, N1, C1⟩ := HC.cut bT p hp
    rw [← E1.out] at HR2
    have hL1 : L1.length = l.length - p := by rw [E1.out, List.length_drop]
    clear E1
    cases L1 with
    | nil =>
      have hR : R = (0, 0, 3) := HR2.out.symm
      subst hR
      clear HR2
      go_enter func46, ntmps46
      go_wp2_with (first | (go_at_call 69; refine (zC _ _ _ _ _).mono ?_; rintro e wN ⟨rfl, hwN⟩; replace hwN := hwN.symm; subst hwN; rw [hw]) | (with_reducible refine jx ?_; first | (refine jc 17 rfl rfl (.slice ao1 0 cap1) (C1.run _ _ rfl rfl rfl _) ?_; (try simp only [Act.put, List.setIfInBounds_toArray, List.set_cons_zero, List.set_cons_succ]))))
      go_ret3
      exact ⟨rfl, rfl⟩
    | cons k q =>
      have hql : q.length + 1 = l.length - p := by simpa using hL1
      have hlt1 := N1.lt256
      have hk256 : k < 256 := hlt1 k (by simp)
      have Hq : Shut (∀ x ∈ q, x < 256) := ⟨fun x hx => hlt1 x (by simp [hx])⟩
      clear hlt1
      obtain ⟨ad1, rfl, hc1⟩ := N1.at (j := 0) (by simp)
      replace hc1 : Shut (w.cell? (ad1.add 0) = some (.int .u8 (k : Int))) := ⟨hc1⟩
      obtain ⟨ao2, cap2, L2, E2, N2, C2⟩ := N1.cut bT 1 (by simp)
      have e2 : L2 = q := by rw [E2.out]; rfl
      subst e2
      clear E2 N1
      have HQ : Shut (L2.length + 1 = l.length - p) := ⟨hql⟩
      clear hql hL1
      by_cases h8 : 8 < k
      · have hR : R = (0, 0, 2) := by rw [← HR2.out, getR, if_pos h8]
        subst hR
        clear HR2
        go_enter func46, ntmps46
        go_wp2_with (first | (go_at_call 69; refine (zC _ _ _ _ _).mono ?_; rintro e wN ⟨rfl, hwN⟩; replace hwN := hwN.symm; subst hwN; rw [hw]) | (with_reducible refine jx ?_; (first | (refine jc 17 rfl rfl (.slice (some ad1) (L2.length + 1) cap1) (C1.run _ _ rfl rfl rfl _) ?_) | (refine jc 20 rfl rfl (.bool false) (jw 3 .i64 _ _ _ rfl underlying3 ((L2.length + 1 : Nat) : Int) 0 rfl rfl false (by simp; omega) _) ?_) | (refine jc 22 rfl rfl (.pointer (some (ad1.add 0))) (zf bT _ _ rfl ad1 (L2.length + 1) cap1 0 rfl rfl (by omega) _) ?_) | (refine jc 23 rfl rfl (.int .u8 (k : Int)) (zj bT _ rfl (ad1.add 0) rfl _ _ hc1.out) ?_) | (refine jc 24 rfl rfl (.int .i64 (k : Int)) (conv53 _ rfl k hk256 rfl _) ?_) | (refine jc 26 rfl rfl (.slice ao2 L2.length cap2) (C2.run _ _ rfl rfl rfl _) ?_) | (refine jc 29 rfl rfl (.bool true) (jY _ _ _ rfl (k : Int) 8 rfl rfl true (by simp; omega) _) ?_)); (try simp only [Act.put, List.setIfInBounds_toArray, List.set_cons_zero, List.set_cons_succ])))
        go_ret3
        exact ⟨rfl, rfl⟩
      · have h8' : k ≤ 8 := by omega
        clear h8
        by_cases hsh : L2.length < k
        · have hR : R = (0, 0, 3) := by rw [← HR2.out, getR, if_neg (by omega), if_pos hsh]
          subst hR
          clear HR2
          go_enter func46, ntmps46
          go_wp2_with (first | (go_at_call 69; refine (zC _ _ _ _ _).mono ?_; rintro e wN ⟨rfl, hwN⟩; replace hwN := hwN.symm; subst hwN; rw [hw]) | (with_reducible refine jx ?_; (first | (refine jc 17 rfl rfl (.slice (some ad1) (L2.length + 1) cap1) (C1.run _ _ rfl rfl rfl _) ?_) | (refine jc 20 rfl rfl (.bool false) (jw 3 .i64 _ _ _ rfl underlying3 ((L2.length + 1 : Nat) : Int) 0 rfl rfl false (by simp; omega) _) ?_) | (refine jc 22 rfl rfl (.pointer (some (ad1.add 0))) (zf bT _ _ rfl ad1 (L2.length + 1) cap1 0 rfl rfl (by omega) _) ?_) | (refine jc 23 rfl rfl (.int .u8 (k : Int)) (zj bT _ rfl (ad1.add 0) rfl _ _ hc1.out) ?_) | (refine jc 24 rfl rfl (.int .i64 (k : Int)) (conv53 _ rfl k hk256 rfl _) ?_) | (refine jc 26 rfl rfl (.slice ao2 L2.length cap2) (C2.run _ _ rfl rfl rfl _) ?_) | (refine jc 29 rfl rfl (.bool false) (jY _ _ _ rfl (k : Int) 8 rfl rfl false (by simp; omega) _) ?_) | (refine jc 34 rfl rfl (.bool true) (jI _ _ _ rfl (L2.length : Int) (k : Int) rfl rfl true (by simp; omega) _) ?_)); (try simp only [Act.put, List.setIfInBounds_toArray, List.set_cons_zero, List.set_cons_succ])))
          go_ret3
          exact ⟨rfl, rfl⟩
        · have hkl : k ≤ L2.length := by omega
          clear hsh
          by_cases hk0 : k = 0
          · have hR : R = (0, p + 1, 0) := by rw [← HR2.out, getR, if_neg (by omega), if_neg (by omega), if_neg (by omega), hk0]; rfl
            subst hR
            subst hk0
            have hpp : p + 1 ≤ l.length := by have := HQ.out; omega
            clear HR2 Hq HQ
            go_enter func46, ntmps46
            go_wp2_with (first | (go_at_call 69; refine (zC _ _ _ _ _).mono ?_; rintro e wN ⟨rfl, hwN⟩; replace hwN := hwN.symm; subst hwN; rw [hw]) | (with_reducible refine jx ?_; (first | (refine jc 17 rfl rfl (.slice (some ad1) (L2.length + 1) cap1) (C1.run _ _ rfl rfl rfl _) ?_) | (refine jc 20 rfl rfl (.bool false) (jw 3 .i64 _ _ _ rfl underlying3 ((L2.length + 1 : Nat) : Int) 0 rfl rfl false (by simp; omega) _) ?_) | (refine jc 22 rfl rfl (.pointer (some (ad1.add 0))) (zf bT _ _ rfl ad1 (L2.length + 1) cap1 0 rfl rfl (by omega) _) ?_) | (refine jc 23 rfl rfl (.int .u8 ((0 : Nat) : Int)) (zj bT _ rfl (ad1.add 0) rfl _ _ hc1.out) ?_) | (refine jc 24 rfl rfl (.int .i64 ((0 : Nat) : Int)) (conv53 _ rfl 0 hk256 rfl _) ?_) | (refine jc 26 rfl rfl (.slice ao2 L2.length cap2) (C2.run _ _ rfl rfl rfl _) ?_) | (refine jc 29 rfl rfl (.bool false) (jY _ _ _ rfl ((0 : Nat) : Int) 8 rfl rfl false (by simp; omega) _) ?_) | (refine jc 34 rfl rfl (.bool false) (jI _ _ _ rfl (L2.length : Int) ((0 : Nat) : Int) rfl rfl false (by simp; omega) _) ?_) | (refine jc 37 rfl rfl (.bool false) (jY _ _ _ rfl ((0 : Nat) : Int) 0 rfl rfl false (by decide) _) ?_)); (try simp only [Act.put, List.setIfInBounds_toArray, List.set_cons_zero, List.set_cons_succ])))
            go_loopw [9, 45] (fun x i wr => x = .int .u64 0 ∧ i = .int .i64 0 ∧ wr = w) (fun _ _ _ => 0)
            case atStart => exact ⟨rfl, rfl, rfl⟩
            case round =>
              rename_i wr
              obtain ⟨rfl, rfl, hwr⟩ := hrel
              replace hwr := hwr.symm
              subst hwr
              go_wp2_with (first | (with_reducible refine jx ?_; (first | (refine jc 59 rfl rfl (.int .i64 ((p + 1 : Nat) : Int)) (jp _ _ _ rfl (p : Int) 1 _ rfl rfl (by omega) (by omega) (by omega) _) ?_) | (refine jc 61 rfl rfl (.int .i64 ((p + 1 : Nat) : Int)) (jp _ _ _ rfl ((p + 1 : Nat) : Int) ((0 : Nat) : Int) _ rfl rfl (by omega) (by omega) (by omega) _) ?_)); (try simp only [Act.put, List.setIfInBounds_toArray, List.set_cons_zero, List.set_cons_succ])))
              go_ret3
              exact ⟨rfl, rfl⟩
          · obtain ⟨ad2, rfl, hc2⟩ := N2.at (j := 0) (by omega)
            have hh : L2.headD 0 = L2.getD 0 0 := by cases L2 <;> rfl
            obtain ⟨y, hy⟩ : ∃ y, L2.getD 0 0 = y := ⟨_, rfl⟩
            rw [hy] at hh hc2
            replace hc2 : Shut _ := ⟨hc2⟩
            have HH : Shut _ := ⟨hh⟩
            clear hh hy
            by_cases hy0 : y = 0
            · have hR : R = (0, 0, 2) := by rw [← HR2.out, getR, if_neg (by omega), if_neg (by omega), if_pos ⟨by omega, by rw [HH.out, hy0]⟩]
              subst hR
              subst hy0
              clear HR2
              go_enter func46, ntmps46
              go_wp2_with (first | (go_at_call 69; refine (zC _ _ _ _ _).mono ?_; rintro e wN ⟨rfl, hwN⟩; replace hwN := hwN.symm; subst hwN; rw [hw]) | (with_reducible refine jx ?_; (first | (refine jc 17 rfl rfl (.slice (some ad1) (L2.length + 1) cap1) (C1.run _ _ rfl rfl rfl _) ?_) | (refine jc 20 rfl rfl (.bool false) (jw 3 .i64 _ _ _ rfl underlying3 ((L2.length + 1 : Nat) : Int) 0 rfl rfl false (by simp; omega) _) ?_) | (refine jc 22 rfl rfl (.pointer (some (ad1.add 0))) (zf bT _ _ rfl ad1 (L2.length + 1) cap1 0 rfl rfl (by omega) _) ?_) | (refine jc 23 rfl rfl (.int .u8 (k : Int)) (zj bT _ rfl (ad1.add 0) rfl _ _ hc1.out) ?_) | (refine jc 24 rfl rfl (.int .i64 (k : Int)) (conv53 _ rfl k hk256 rfl _) ?_) | (refine jc 26 rfl rfl (.slice (some ad2) L2.length cap2) (C2.run _ _ rfl rfl rfl _) ?_) | (refine jc 29 rfl rfl (.bool false) (jY _ _ _ rfl (k : Int) 8 rfl rfl false (by simp; omega) _) ?_) | (refine jc 34 rfl rfl (.bool false) (jI _ _ _ rfl (L2.length : Int) (k : Int) rfl rfl false (by simp; omega) _) ?_) | (refine jc 37 rfl rfl (.bool true) (jY _ _ _ rfl (k : Int) 0 rfl rfl true (by simp; omega) _) ?_) | (refine ju 40 rfl rfl (.pointer (some (ad2.add 0))) (zf bT _ _ rfl ad2 L2.length cap2 0 rfl rfl (by omega) _) ?_) | (refine ju 41 rfl rfl (.int .u8 ((0 : Nat) : Int)) (zj bT _ rfl (ad2.add 0) rfl _ _ hc2.out) ?_)); (try simp only [Act.put, List.setIfInBounds_toArray, List.set_cons_zero, List.set_cons_succ])))
              go_ret3
              exact ⟨rfl, rfl⟩
            · have hR : R = (valL (L2.take k), p + 1 + k, 0) := by
                rw [← HR2.out, getR, if_neg (by omega), if_neg (by omega), if_neg]
                rw [HH.out]
                omega
              have HR3 : Shut _ := ⟨hR⟩
              have hpp : p + 1 + k ≤ l.length := by have := HQ.out; omega
              clear HR2 HQ hR
              go_enter func46, ntmps46
              go_wp2_with (first | (go_at_call 69; refine (zC _ _ _ _ _).mono ?_; rintro e wN ⟨rfl, hwN⟩; replace hwN := hwN.symm; subst hwN; rw [hw]) | (with_reducible refine jx ?_; (first | (refine jc 17 rfl rfl (.slice (some ad1) (L2.length + 1) cap1) (C1.run _ _ rfl rfl rfl _) ?_) | (refine jc 20 rfl rfl (.bool false) (jw 3 .i64 _ _ _ rfl underlying3 ((L2.length + 1 : Nat) : Int) 0 rfl rfl false (by simp; omega) _) ?_) | (refine jc 22 rfl rfl (.pointer (some (ad1.add 0))) (zf bT _ _ rfl ad1 (L2.length + 1) cap1 0 rfl rfl (by omega) _) ?_) | (refine jc 23 rfl rfl (.int .u8 (k : Int)) (zj bT _ rfl (ad1.add 0) rfl _ _ hc1.out) ?_) | (refine jc 24 rfl rfl (.int .i64 (k : Int)) (conv53 _ rfl k hk256 rfl _) ?_) | (refine jc 26 rfl rfl (.slice (some ad2) L2.length cap2) (C2.run _ _ rfl rfl rfl _) ?_) | (refine jc 29 rfl rfl (.bool false) (jY _ _ _ rfl (k : Int) 8 rfl rfl false (by simp; omega) _) ?_) | (refine jc 34 rfl rfl (.bool false) (jI _ _ _ rfl (L2.length : Int) (k : Int) rfl rfl false (by simp; omega) _) ?_) | (refine jc 37 rfl rfl (.bool true) (jY _ _ _ rfl (k : Int) 0 rfl rfl true (by simp; omega) _) ?_) | (refine ju 40 rfl rfl (.pointer (some (ad2.add 0))) (zf bT _ _ rfl ad2 L2.length cap2 0 rfl rfl (by omega) _) ?_) | (refine ju 41 rfl rfl (.int .u8 (y : Int)) (zj bT _ rfl (ad2.add 0) rfl _ _ hc2.out) ?_) | (refine ju 42 rfl rfl (.bool false) (jw 5 .u8 _ _ _ rfl underlying5 (y : Int) 0 rfl rfl false (by simp; omega) _) ?_)); (try simp only [Act.put, List.setIfInBounds_toArray, List.set_cons_zero, List.set_cons_succ])))
              go_loopw [9, 45] (fun x i wr => ∃ j : Nat, j ≤ k ∧ x = .int .u64 (valL (L2.take j) : Int) ∧ i = .int .i64 (j : Int) ∧ wr = w) (fun _ i _ => k - (intOf i).toNat)
              case atStart => exact ⟨0, by omega, rfl, rfl, rfl⟩
              case round =>
                rename_i wr
                obtain ⟨j, hj, rfl, rfl, hwr⟩ := hrel
                replace hwr := hwr.symm
                subst hwr
                cases hlt : decide ((j : Int) < (k : Int))
                · have ej : j = k := by simp at hlt; omega
                  subst ej
                  go_wp2_with (first | (with_reducible refine jx ?_; (first | (refine jc 46 rfl rfl (.bool false) (jI _ _ _ rfl (j : Int) (j : Int) rfl rfl false hlt _) ?_) | (refine jc 59 rfl rfl (.int .i64 ((p + 1 : Nat) : Int)) (jp _ _ _ rfl (p : Int) 1 _ rfl rfl (by omega) (by omega) (by omega) _) ?_) | (refine jc 61 rfl rfl (.int .i64 ((p + 1 + j : Nat) : Int)) (jp _ _ _ rfl ((p + 1 : Nat) : Int) (j : Int) _ rfl rfl (by omega) (by omega) (by omega) _) ?_)); (try simp only [Act.put, List.setIfInBounds_toArray, List.set_cons_zero, List.set_cons_succ])))
                  go_ret3
                  exact ⟨by rw [HR3.out]; rfl, rfl⟩
                · have hjk : j < k := by simp at hlt; omega
                  have HS : Shut _ := ⟨un L2 j (by omega)⟩
                  have hsm := yp L2 Hq.out j (by omega) (by omega)
                  have hcj := N2.cell ad2 rfl j (by omega)
                  have hz := Hq.out _ (uJ L2 0 j (by omega))
                  obtain ⟨z, hz'⟩ : ∃ z, L2.getD j 0 = z := ⟨_, rfl⟩
                  rw [hz'] at HS hcj hz
                  clear hz'
                  replace hcj : Shut _ := ⟨hcj⟩
                  obtain ⟨x, hx⟩ : ∃ x, valL (L2.take j) = x := ⟨_, rfl⟩
                  rw [hx] at HS hsm ⊢
                  clear hx
                  go_wp2_with (first | (with_reducible refine jx ?_; (first | (refine jc 46 rfl rfl (.bool true) (jI _ _ _ rfl (j : Int) (k : Int) rfl rfl true hlt _) ?_) | (refine jc 49 rfl rfl (.int .u64 ((x * 256 : Nat) : Int)) (VQ _ _ _ _ rfl x hsm .u64 rfl rfl _) ?_) | (refine jc 52 rfl rfl (.pointer (some (ad2.add j))) (zf bT _ _ rfl ad2 L2.length cap2 j rfl rfl (by omega) _) ?_) | (refine jc 53 rfl rfl (.int .u8 (z : Int)) (zj bT _ rfl (ad2.add j) rfl _ _ hcj.out) ?_) | (refine jc 54 rfl rfl (.int .u64 (z : Int)) (conv525 _ rfl z hz rfl _) ?_) | (refine jc 55 rfl rfl (.int .u64 ((x * 256 + z : Nat) : Int)) (QN _ _ _ _ rfl x z hsm hz rfl rfl _ rfl _) ?_)); (try simp only [Act.put, List.setIfInBounds_toArray, List.set_cons_zero, List.set_cons_succ])))
                  go_light
                  go_roundw
                  case rel => exact ⟨j + 1, by omega, by rw [HS.out], by go_num, by trivial⟩
                  case measure => simp [intOf]; omega
end Go.Proofs.YtgfnjekpafempaaGreat
