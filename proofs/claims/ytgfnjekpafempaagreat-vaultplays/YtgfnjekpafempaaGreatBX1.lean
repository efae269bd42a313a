import Derived.Test.YtgfnjekpafempaaGreatBB2
import Derived.Test.YtgfnjekpafempaaGreatBB1
namespace Go.Proofs.YtgfnjekpafempaaGreat
open Go.Proofs.Tryz
open Go.RowKit
theorem bT : NumT Tryz.prog 27 5 .u8 1 := ⟨underlying27, underlying5, by
  have h : (Tryz.prog.info? 5).map (fun i => (i.zero, i.size, i.bytes)) = some (some (.int .u8 0), 1, 1) := by kernel_rfl
  cases hi : Tryz.prog.info? 5 with
  | none => rw [hi] at h; cases h
  | some i =>
    rw [hi] at h
    simp only [Option.map_some, Option.some.injEq, Prod.mk.injEq] at h
    exact ⟨i, rfl, h.1, h.2.1, h.2.2⟩⟩
theorem uT : NumT Tryz.prog 132 64 .u64 8 := ⟨underlying132, underlying64, by
  have h : (Tryz.prog.info? 64).map (fun i => (i.zero, i.size, i.bytes)) = some (some (.int .u64 0), 1, 8) := by kernel_rfl
  cases hi : Tryz.prog.info? 64 with
  | none => rw [hi] at h; cases h
  | some i =>
    rw [hi] at h
    simp only [Option.map_some, Option.some.injEq, Prod.mk.injEq] at h
    exact ⟨i, rfl, h.1, h.2.1, h.2.2⟩⟩
def tab8 : List UInt8 := [0] ++ List.replicate 1 1 ++ List.replicate 2 2 ++ List.replicate 4 3 ++ List.replicate 8 4 ++ List.replicate 16 5 ++ List.replicate 32 6 ++ List.replicate 64 7 ++ List.replicate 128 8
def t8 (z : Int) : Nat := (tab8[z.toNat]?.getD 0).toNat
theorem jbl : tab8.length = 256 := by decide +kernel
theorem Ji (z : Int) : t8 (z % 256) ≤ 8 ∧ (t8 (z % 256) + 7) / 8 = if z % 256 = 0 then 0 else 1 := by
  have h : (List.range 256).all (fun v => decide ((tab8[v]?.getD 0).toNat ≤ 8) && ((((tab8[v]?.getD 0).toNat + 7) / 8) == (if v = 0 then 0 else 1))) = true := by decide +kernel
  have := List.all_eq_true.1 h (z % 256).toNat (List.mem_range.2 (by omega))
  simp only [Bool.and_eq_true, decide_eq_true_eq, beq_iff_eq] at this
  refine ⟨this.1, ?_⟩
  have e : ((z % 256).toNat = 0) = (z % 256 = 0) := by
    apply propext
    omega
  unfold t8
  rw [this.2]
  simp only [e]
theorem Yv {o : Oper} {A : Act} (x : Operand) (ho : o.op = .convert 64 5 x) (z : Int) (hx : A.eval x = .int .u64 z) (w : World) : (execOp A.eval o).run Tryz.prog w = .ok (.value (.int .u8 (z % 256))) w := by
  unfold execOp
  simp only [ho, hx]
  simp [go_sem]
  simp [IntKind.wrap, IntKind.bits, IntKind.signed]
theorem run_tab {o : Oper} {A : Act} (y : Operand) (s : ByteArray) (ho : o.op = .index 9 (.const (.string s)) y) (hs : s.data.toList = tab8) (z : Int) (hy : A.eval y = .int .u8 (z % 256)) (w : World) : (execOp A.eval o).run Tryz.prog w = .ok (.value (.int .u8 (t8 (z % 256) : Int))) w := by
  have hl := jbl
  have h1 : s[(z % 256).toNat]? = tab8[(z % 256).toNat]? := by
    cases s with
    | mk d =>
      show (if h : _ < d.size then some d[(z % 256).toNat] else none) = _
      simp only at hs
      rw [← hs]
      by_cases h : (z % 256).toNat < d.size
      · simp [h]
      · simp [h]
  have h2 : (z % 256).toNat < tab8.length := by omega
  have h : (Instr.index 9 (.string s) (.int .u8 (z % 256))).run Tryz.prog w = .ok (.int .u8 (t8 (z % 256) : Int)) w := by
    simp only [Instr.index, Sem.run_bind, asIntOf, Sem.run_pure, Result.andThen_ok, run_underlying underlying9, if_pos (show 0 ≤ z % 256 by omega), h1]
    unfold t8
    rw [List.getElem?_eq_getElem h2]
    rfl
  unfold execOp
  have hc : A.eval (.const (.string s)) = .string s := rfl
  simp only [ho, hy, hc, Sem.run_bind, h, Result.andThen_ok, Sem.run_pure]
theorem yM (k a : Nat) (hk : k ≤ 56) (ha : a ≤ 8) : wrap64 ((k : Int) + wrap64 (a : Int)) = ((k + a : Nat) : Int) := by
  unfold wrap64
  omega
theorem jbg (a : Nat) (ha : a ≤ 8) : wrap64 (wrap64 (a : Int)) = ((0 + a : Nat) : Int) := by
  unfold wrap64
  omega
theorem Ur (n k : Nat) (z : Int) (hk : 8 * k ≤ 56) (h : nb n = k + if z % 256 = 0 then 0 else 1) : (8 * k + t8 (z % 256)) ≤ 64 ∧ ((8 * k + t8 (z % 256)) + 7) / 8 = nb n := by
  have := Ji z
  rw [h]
  omega
theorem nb_w7 (n : Nat) (x : Int) (hx : x = (n : Int)) (hn : n < lim) (h1 : 4294967296 ≤ x) (h2 : 65536 ≤ x / 4294967296) (h3 : 256 ≤ x / 4294967296 / 65536) : nb n = 7 + if (x / 4294967296 / 65536 / 256) % 256 = 0 then 0 else 1 := by
  subst hx
  unfold lim at hn
  unfold nb
  (repeat' split) <;> omega
theorem nb_w6 (n : Nat) (x : Int) (hx : x = (n : Int)) (hn : n < lim) (h1 : 4294967296 ≤ x) (h2 : 65536 ≤ x / 4294967296) (h3 : x / 4294967296 / 65536 < 256) : nb n = 6 + if (x / 4294967296 / 65536) % 256 = 0 then 0 else 1 := by
  subst hx
  unfold lim at hn
  unfold nb
  (repeat' split) <;> omega
theorem nb_w5 (n : Nat) (x : Int) (hx : x = (n : Int)) (hn : n < lim) (h1 : 4294967296 ≤ x) (h2 : x / 4294967296 < 65536) (h3 : 256 ≤ x / 4294967296) : nb n = 5 + if (x / 4294967296 / 256) % 256 = 0 then 0 else 1 := by
  subst hx
  unfold lim at hn
  unfold nb
  (repeat' split) <;> omega
theorem nb_w4 (n : Nat) (x : Int) (hx : x = (n : Int)) (hn : n < lim) (h1 : 4294967296 ≤ x) (h2 : x / 4294967296 < 65536) (h3 : x / 4294967296 < 256) : nb n = 4 + if (x / 4294967296) % 256 = 0 then 0 else 1 := by
  subst hx
  unfold lim at hn
  unfold nb
  (repeat' split) <;> omega
theorem nb_w3 (n : Nat) (x : Int) (hx : x = (n : Int)) (hn : n < lim) (h1 : x < 4294967296) (h2 : 65536 ≤ x) (h3 : 256 ≤ x / 65536) : nb n = 3 + if (x / 65536 / 256) % 256 = 0 then 0 else 1 := by
  subst hx
  unfold lim at hn
  unfold nb
  (repeat' split) <;> omega
theorem nb_w2 (n : Nat) (x : Int) (hx : x = (n : Int)) (hn : n < lim) (h1 : x < 4294967296) (h2 : 65536 ≤ x) (h3 : x / 65536 < 256) : nb n = 2 + if (x / 65536) % 256 = 0 then 0 else 1 := by
  subst hx
  unfold lim at hn
  unfold nb
  (repeat' split) <;> omega
theorem nb_w1 (n : Nat) (x : Int) (hx : x = (n : Int)) (hn : n < lim) (h1 : x < 4294967296) (h2 : x < 65536) (h3 : 256 ≤ x) : nb n = 1 + if (x / 256) % 256 = 0 then 0 else 1 := by
  subst hx
  unfold lim at hn
  unfold nb
  (repeat' split) <;> omega
theorem nb_w0 (n : Nat) (x : Int) (hx : x = (n : Int)) (hn : n < lim) (h1 : x < 4294967296) (h2 : x < 65536) (h3 : x < 256) : nb n = 0 + if (x) % 256 = 0 then 0 else 1 := by
  subst hx
  unfold lim at hn
  unfold nb
  (repeat' split) <;> omega
set_option maxRecDepth 1000000 in
set_option maxHeartbeats 4000000 in
theorem jak (n : Nat) (hn : n < lim) (w : World) : Calls Tryz.prog 91 #[.int .u64 (n : Int)] w fun e w' => ∃ b : Nat, e = .returned (.int .i64 (b : Int)) ∧ b ≤ 64 ∧ (b + 7) / 8 = nb n ∧ w' = w := by
  have HN : Shut (n < lim) := ⟨hn⟩
  clear hn
  obtain ⟨x, hx⟩ : ∃ x : Int, x = (n : Int) := ⟨_, rfl⟩
  have HX : Shut (x = (n : Int)) := ⟨hx⟩
  rw [← hx]
  clear hx
  go_enter func91, ntmps91
  go_wp2_with (with_reducible refine jx ?_; (first | (refine jc 21 rfl rfl _ (Yv _ rfl _ rfl _) ?_) | (refine jc 22 rfl rfl _ (run_tab _ _ rfl (by kernel_rfl) _ rfl _) ?_)); (try simp only [Act.put, List.setIfInBounds_toArray, List.set_cons_zero, List.set_cons_succ]))
  all_goals first
    | (have t1 : 4294967296 ≤ x := by assumption
       have t2 : 65536 ≤ x / 4294967296 := by assumption
       have t3 : 256 ≤ x / 4294967296 / 65536 := by assumption
       go_ret
       have hf := Ur n 7 (x / 4294967296 / 65536 / 256) (by decide) (nb_w7 n x HX.out HN.out t1 t2 t3)
       exact ⟨_, congrArg Ending.returned (congrArg (Value.int IntKind.i64) (yM 56 _ (by decide) (Ji _).1)), hf.1, hf.2, rfl⟩)
    | (have t1 : 4294967296 ≤ x := by assumption
       have t2 : 65536 ≤ x / 4294967296 := by assumption
       have t3 : x / 4294967296 / 65536 < 256 := by assumption
       go_ret
       have hf := Ur n 6 (x / 4294967296 / 65536) (by decide) (nb_w6 n x HX.out HN.out t1 t2 t3)
       exact ⟨_, congrArg Ending.returned (congrArg (Value.int IntKind.i64) (yM 48 _ (by decide) (Ji _).1)), hf.1, hf.2, rfl⟩)
    | (have t1 : 4294967296 ≤ x := by assumption
       have t2 : x / 4294967296 < 65536 := by assumption
       have t3 : 256 ≤ x / 4294967296 := by assumption
       go_ret
       have hf := Ur n 5 (x / 4294967296 / 256) (by decide) (nb_w5 n x HX.out HN.out t1 t2 t3)
       exact ⟨_, congrArg Ending.returned (congrArg (Value.int IntKind.i64) (yM 40 _ (by decide) (Ji _).1)), hf.1, hf.2, rfl⟩)
    | (have t1 : 4294967296 ≤ x := by assumption
       have t2 : x / 4294967296 < 65536 := by assumption
       have t3 : x / 4294967296 < 256 := by assumption
       go_ret
       have hf := Ur n 4 (x / 4294967296) (by decide) (nb_w4 n x HX.out HN.out t1 t2 t3)
       exact ⟨_, congrArg Ending.returned (congrArg (Value.int IntKind.i64) (yM 32 _ (by decide) (Ji _).1)), hf.1, hf.2, rfl⟩)
    | (have t1 : x < 4294967296 := by assumption
       have t2 : 65536 ≤ x := by assumption
       have t3 : 256 ≤ x / 65536 := by assumption
       go_ret
       have hf := Ur n 3 (x / 65536 / 256) (by decide) (nb_w3 n x HX.out HN.out t1 t2 t3)
       exact ⟨_, congrArg Ending.returned (congrArg (Value.int IntKind.i64) (yM 24 _ (by decide) (Ji _).1)), hf.1, hf.2, rfl⟩)
    | (have t1 : x < 4294967296 := by assumption
       have t2 : 65536 ≤ x := by assumption
       have t3 : x / 65536 < 256 := by assumption
       go_ret
       have hf := Ur n 2 (x / 65536) (by decide) (nb_w2 n x HX.out HN.out t1 t2 t3)
       exact ⟨_, congrArg Ending.returned (congrArg (Value.int IntKind.i64) (yM 16 _ (by decide) (Ji _).1)), hf.1, hf.2, rfl⟩)
    | (have t1 : x < 4294967296 := by assumption
       have t2 : x < 65536 := by assumption
       have t3 : 256 ≤ x := by assumption
       go_ret
       have hf := Ur n 1 (x / 256) (by decide) (nb_w1 n x HX.out HN.out t1 t2 t3)
       exact ⟨_, congrArg Ending.returned (congrArg (Value.int IntKind.i64) (yM 8 _ (by decide) (Ji _).1)), hf.1, hf.2, rfl⟩)
    | (have t1 : x < 4294967296 := by assumption
       have t2 : x < 65536 := by assumption
       have t3 : x < 256 := by assumption
       go_ret
       have hf := Ur n 0 (x) (by decide) (nb_w0 n x HX.out HN.out t1 t2 t3)
       exact ⟨_, congrArg Ending.returned (congrArg (Value.int IntKind.i64) (jbg _ (Ji _).1)), hf.1, hf.2, rfl⟩)
theorem zR {P : Program} {ops : Array Oper} {rest : List Oper} {o : Oper} {a : Act} {w : World} {Q : Exit → Act → World → Prop} {s x : Operand} {t1 t2 : TypeId} (_ho : o.op = .call { callee := .builtin .append, args := #[s, x], argTypes := #[t1, t2] }) (h : Stop (wpList P ops Q (o :: rest) a w)) : wpList P ops Q (o :: rest) a w := h.out
section
variable {P : Program} {o : Oper} {A : Act} {w : World}
theorem ya (r : Int) (h1 : -9223372036854775808 ≤ r) (h2 : r < 9223372036854775808) : IntKind.i64.wrap r = r := by
  simp [IntKind.wrap, IntKind.bits, IntKind.signed]
  omega
theorem jp (x y : Operand) (t2 : TypeId) (ho : o.op = .binOp .add 3 x y t2) (a b r : Int) (hx : A.eval x = .int .i64 a) (hy : A.eval y = .int .i64 b) (hr : a + b = r) (h1 : -9223372036854775808 ≤ r) (h2 : r < 9223372036854775808) (w : World) : (execOp A.eval o).run P w = .ok (.value (.int .i64 r)) w := by
  refine jF .add 3 x y t2 ho _ _ _ hx hy (by simp [eqGuard]) ?_
  subst hr
  have := ya _ h1 h2
  simp [binOp, Op.intArith, this]
theorem jP (x y : Operand) (t2 : TypeId) (ho : o.op = .binOp .sub 3 x y t2) (a b r : Int) (hx : A.eval x = .int .i64 a) (hy : A.eval y = .int .i64 b) (hr : a - b = r) (h1 : -9223372036854775808 ≤ r) (h2 : r < 9223372036854775808) (w : World) : (execOp A.eval o).run P w = .ok (.value (.int .i64 r)) w := by
  refine jF .sub 3 x y t2 ho _ _ _ hx hy (by simp [eqGuard]) ?_
  subst hr
  have := ya _ h1 h2
  simp [binOp, Op.intArith, this]
theorem zd (x y : Operand) (t2 : TypeId) (ho : o.op = .binOp .mul 3 x y t2) (a b r : Int) (hx : A.eval x = .int .i64 a) (hy : A.eval y = .int .i64 b) (hr : a * b = r) (h1 : -9223372036854775808 ≤ r) (h2 : r < 9223372036854775808) (w : World) : (execOp A.eval o).run P w = .ok (.value (.int .i64 r)) w := by
  refine jF .mul 3 x y t2 ho _ _ _ hx hy (by simp [eqGuard]) ?_
  subst hr
  have := ya _ h1 h2
  simp [binOp, Op.intArith, this]
theorem zn (x y : Operand) (t2 : TypeId) (ho : o.op = .binOp .quo 3 x y t2) (a b r : Int) (hx : A.eval x = .int .i64 a) (hy : A.eval y = .int .i64 b) (hb : b ≠ 0) (hr : a.tdiv b = r) (h1 : -9223372036854775808 ≤ r) (h2 : r < 9223372036854775808) (w : World) : (execOp A.eval o).run P w = .ok (.value (.int .i64 r)) w := by
  refine jF .quo 3 x y t2 ho _ _ _ hx hy (by simp [eqGuard]) ?_
  subst hr
  have := ya _ h1 h2
  simp [binOp, Op.intDiv, hb, this]
theorem yL (t t2 : TypeId) (x y : Operand) (ho : o.op = .binOp .shr t x y t2) (n m : Nat) (ky : IntKind) (hx : A.eval x = .int .u64 (n : Int)) (hy : A.eval y = .int ky (m : Int)) (hm : m ≤ 64) (r : Nat) (hr : n / 2 ^ m = r) (w : World) : (execOp A.eval o).run P w = .ok (.value (.int .u64 (r : Int))) w := by
  refine jF .shr t x y t2 ho _ _ _ hx hy (by simp [eqGuard]) ?_
  subst hr
  have h1 : ¬ ((m : Int) < 0) := by omega
  have h2 : min m IntKind.u64.bits = m := by
    have : IntKind.u64.bits = 64 := rfl
    omega
  simp [binOp]
theorem jI (x y : Operand) (t2 : TypeId) (ho : o.op = .binOp .lss 3 x y t2) (a b : Int) (hx : A.eval x = .int .i64 a) (hy : A.eval y = .int .i64 b) (p : Bool) (hp : decide (a < b) = p) (w : World) : (execOp A.eval o).run P w = .ok (.value (.bool p)) w := by
  rw [US 3 x y t2 ho .i64 a b hx hy w, hp]
end
theorem conv35 {o : Oper} {A : Act} (x : Operand) (ho : o.op = .convert 3 5 x) (n : Nat) (hn : n < 256) (hx : A.eval x = .int .i64 (n : Int)) (w : World) : (execOp A.eval o).run Tryz.prog w = .ok (.value (.int .u8 (n : Int))) w := by
  have h : IntKind.u8.wrap (n : Int) = (n : Int) := by
    simp [IntKind.wrap, IntKind.bits, IntKind.signed]
    omega
  unfold execOp
  simp only [ho, hx]
  simp [go_sem, h]
theorem conv255 {o : Oper} {A : Act} (x : Operand) (ho : o.op = .convert 64 5 x) (n r : Nat) (hn : n % 256 = r) (hx : A.eval x = .int .u64 (n : Int)) (w : World) : (execOp A.eval o).run Tryz.prog w = .ok (.value (.int .u8 (r : Int))) w := by
  rw [Yv x ho _ hx]
  congr 3
  omega
theorem run_one {o : Oper} {A : Act} (x : Operand) (ho : o.op = .buildSlice 27 1 #[(0, x)]) (z : Int) (hx : A.eval x = .int .u8 z) (w : World) :
    (execOp A.eval o).run Tryz.prog w = .ok (.value (.slice (some ⟨w.heap.size, 0, none⟩) 1 1)) (w.alloc (.cells #[.int .u8 z] 5)) := by
  have h1 : (Instr.buildSlice 27 1 #[(0, .int .u8 z)]).run Tryz.prog w = .ok (.slice (some ⟨w.heap.size, 0, none⟩) 1 1) (w.alloc (.cells #[.int .u8 z] 5)) := by kernel_rfl
  unfold execOp
  simp only [ho, List.map_toArray, List.map_cons, List.map_nil, hx, Sem.run_bind, h1, Result.andThen_ok, Sem.run_pure]
theorem OB.one {w : World} {g : Nat} {e : TypeId} {k : IntKind} {z : Nat} {B : Nat} (hg : w.heap[g]? = some (.cells #[.int k (z : Int)] e (0, 0))) (hB : B ≤ g) (hz : (z : Int) ≤ k.max) : OB w e k B (some ⟨g, 0, none⟩) 1 [z] :=
  OB.made hg hB (Nat.le_refl _) (by decide) rfl rfl (fun x hx => by simp at hx; subst hx; exact hz)
theorem yO {ops : Array Oper} {rest : List Oper} {o : Oper} {a : Act} {w : World} {Q : Exit → Act → World → Prop} (dst : Nat) (hd : o.dst = some dst) (hgd : o.guard = none) (x : Operand) (ho : o.op = .buildSlice 27 1 #[(0, x)]) (z : Nat) (hz : z < 256) (hx : a.eval x = .int .u8 (z : Int))
    (h : ∀ w' g, Gro w w' → w.heap.size = g → OB w' 5 .u8 g (some ⟨g, 0, none⟩) 1 [z] → wpList Tryz.prog ops Q rest (a.put (some dst) (.slice (some ⟨g, 0, none⟩) 1 1)) w') : wpList Tryz.prog ops Q (o :: rest) a w :=
  wpList_plain hgd fun _ hK => by
    unfold Oper.wp
    rw [run_one x ho z hx, Oper.upon_value, hd]
    exact hK _ _ (h _ _ (zl _ _) rfl (OB.one (heap_alloc_new _ _) (Nat.le_refl _) (by rw [yY]; omega)))
def AppP (w : World) (B : Nat) (l : List Nat) (e : Ending) (w' : World) : Prop := ∃ ao cap L, e = .returned (.slice ao (List.length L) cap) ∧ Shut (L = l) ∧ OB w' 5 .u8 B ao cap L ∧ Below B w w'
theorem quo_nb (b m : Nat) (h : (b + 7) / 8 = m) : ((b + 7 : Nat) : Int).tdiv 8 = (m : Int) := by
  subst h
  rw [Int.tdiv_eq_ediv_of_nonneg (by omega)]
  omega
set_option maxHeartbeats 1600000 in
theorem uU (n : Nat) (hn : n < lim) (ao : Option Addr) (cap : Nat) (l : List Nat) (B : Nat) (w : World) (HO : OB w 5 .u8 B ao cap l) (hB : B ≤ w.heap.size) (hlen : l.length ≤ 140737488355000) : Calls Tryz.prog 73 #[.slice ao l.length cap, .int .u64 (n : Int)] w (AppP w B (l ++ numL n)) := by
  have HN : Shut (n < lim) := ⟨hn⟩
  have hm8 := zL n
  have HG : Shut (∀ i, i < nb n → (beL (nb n) n).getD i 0 = n / 256 ^ (nb n - 1 - i) % 256) := ⟨vn (nb n) n⟩
  have HL : Shut (∀ L j, L = l ++ (nb n :: (beL (nb n) n).take j) → j ≤ nb n → L.length = l.length + 1 + j ∧ (j = nb n → L = l ++ numL n)) := ⟨fun L j e hj => by
    subst e
    have := jL (nb n) n
    refine ⟨by simp; omega, fun e => ?_⟩
    rw [e, List.take_of_length_le (by omega)]
    rfl⟩
  have HT : Shut (∀ j, j < nb n → (beL (nb n) n).take (j + 1) = (beL (nb n) n).take j ++ [n / 256 ^ (nb n - 1 - j) % 256]) := ⟨fun j hj => by
    have hl := jL (nb n) n
    have h := vn (nb n) n j hj
    rw [List.take_add_one, ← h, List.getD_eq_getElem?_getD, List.getElem?_eq_getElem (by omega)]
    rfl⟩
  clear hn HG
  obtain ⟨m, hm⟩ : ∃ m, nb n = m := ⟨_, rfl⟩
  have HM : Shut (nb n = m) := ⟨hm⟩
  rw [hm] at hm8 HL HT
  clear hm
  go_enter func73, ntmps73
  go_wp2_with (first | (go_at_call 91; refine (jak n HN.out _).mono ?_; rintro e wN ⟨b, rfl, hb, hq, hw⟩; replace hw := hw.symm; subst hw; have HQ := quo_nb b m (hq.trans HM.out); have HQ' : Shut _ := ⟨HQ⟩; clear HQ hq) | (with_reducible refine jx ?_; first | (refine jc 9 rfl rfl (.int .i64 ((b + 7 : Nat) : Int)) (jp _ _ _ rfl (b : Int) 7 _ rfl rfl (by omega) (by omega) (by omega) _) ?_; (try simp only [Act.put, List.setIfInBounds_toArray, List.set_cons_zero, List.set_cons_succ])) | (refine jc 10 rfl rfl (.int .i64 (m : Int)) (zn _ _ _ rfl ((b + 7 : Nat) : Int) 8 _ rfl rfl (by decide) HQ'.out (by omega) (by omega) _) ?_; (try simp only [Act.put, List.setIfInBounds_toArray, List.set_cons_zero, List.set_cons_succ])) | (refine jc 13 rfl rfl (.int .u8 (m : Int)) (conv35 _ rfl m (by omega) rfl _) ?_; (try simp only [Act.put, List.setIfInBounds_toArray, List.set_cons_zero, List.set_cons_succ])) | (refine yO 14 rfl rfl _ rfl (m) (by omega) rfl ?_; intro w2 g2 G2 e2 K2; (try simp only [Act.put, List.setIfInBounds_toArray, List.set_cons_zero, List.set_cons_succ])) | (refine zR rfl ?_)))
  constructor
  have HO2 := HO.gro G2
  refine zS bT 15 rfl rfl _ _ rfl rfl HO2 (l' := [m]) rfl K2.nc (by simp; omega) (by decide) (Nat.le_trans hB G2.size) ?_
  intro ao3 cap3 L3 w3 E3 HO3 B3
  have BB : Below B _ w3 := Below.trans (Below.mono G2 hB) B3
  clear B3 HO2 K2 G2 HO
  simp only [Act.put, List.setIfInBounds_toArray, List.set_cons_zero, List.set_cons_succ]
  go_wp2
  go_loopw [0, 17] (fun v i wr => ∃ (j : Nat) (ao : Option Addr) (cap : Nat) (L : List Nat), j ≤ m ∧ i = .int .i64 (j : Int) ∧ v = .slice ao L.length cap ∧ Shut (L = l ++ (m :: (beL m n).take j)) ∧ OB wr 5 .u8 B ao cap L ∧ Below B w wr) (fun _ i _ => m - (intOf i).toNat)
  case atStart => exact ⟨0, ao3, cap3, L3, by omega, rfl, rfl, ⟨by rw [E3.out]; rfl⟩, HO3, BB⟩
  case round =>
    rename_i wr
    clear HO3 E3 BB
    obtain ⟨j, ao, cap, L, hj, rfl, rfl, EL, HO, BB⟩ := hrel
    have hLl := (HL.out L j EL.out hj).1
    cases hlt : decide ((j : Int) < (m : Int))
    · have ej : j = m := by simp at hlt; omega
      have EF : Shut (L = l ++ numL n) := ⟨(HL.out L j EL.out hj).2 ej⟩
      clear ej hLl
      go_wp2_with (first | (with_reducible refine jx ?_; first | (refine jc 18 rfl rfl (.bool false) (jI _ _ _ rfl (j : Int) (m : Int) rfl rfl false hlt _) ?_; (try simp only [Act.put, List.setIfInBounds_toArray, List.set_cons_zero, List.set_cons_succ]))))
      go_ret
      exact ⟨ao, cap, L, rfl, EF, HO, BB⟩
    · have hjm : j < m := by simp at hlt; omega
      have HLL : Shut (L.length = l.length + 1 + j) := ⟨hLl⟩
      have HE := HT.out j hjm
      have HE' : Shut _ := ⟨HE⟩
      clear HE hLl
      have hp : n / 2 ^ (8 * (m - 1 - j)) = n / 256 ^ (m - 1 - j) := by rw [Nat.pow_mul]
      have HP : Shut _ := ⟨hp⟩
      clear hp
      obtain ⟨y, hy⟩ : ∃ y, n / 256 ^ (m - 1 - j) = y := ⟨_, rfl⟩
      rw [hy] at HP HE'
      clear hy
      have hz : y % 256 < 256 := Nat.mod_lt _ (by decide)
      obtain ⟨z, hyz⟩ : ∃ z, y % 256 = z := ⟨_, rfl⟩
      rw [hyz] at HE' hz
      have HZ : Shut (y % 256 = z) := ⟨hyz⟩
      clear hyz
      go_wp2_with (first | (with_reducible refine jx ?_; first | (refine jc 18 rfl rfl (.bool true) (jI _ _ _ rfl (j : Int) (m : Int) rfl rfl true hlt _) ?_; (try simp only [Act.put, List.setIfInBounds_toArray, List.set_cons_zero, List.set_cons_succ])) | (refine jc 23 rfl rfl (.int .i64 ((m - 1 : Nat) : Int)) (jP _ _ _ rfl (m : Int) 1 _ rfl rfl (by omega) (by omega) (by omega) _) ?_; (try simp only [Act.put, List.setIfInBounds_toArray, List.set_cons_zero, List.set_cons_succ])) | (refine jc 25 rfl rfl (.int .i64 ((m - 1 - j : Nat) : Int)) (jP _ _ _ rfl ((m - 1 : Nat) : Int) (j : Int) _ rfl rfl (by omega) (by omega) (by omega) _) ?_; (try simp only [Act.put, List.setIfInBounds_toArray, List.set_cons_zero, List.set_cons_succ])) | (refine jc 26 rfl rfl (.int .i64 ((8 * (m - 1 - j) : Nat) : Int)) (zd _ _ _ rfl 8 ((m - 1 - j : Nat) : Int) _ rfl rfl (by omega) (by omega) (by omega) _) ?_; (try simp only [Act.put, List.setIfInBounds_toArray, List.set_cons_zero, List.set_cons_succ])) | (refine jc 27 rfl rfl (.int .u64 (y : Int)) (yL _ _ _ _ rfl n (8 * (m - 1 - j)) .i64 rfl rfl (by omega) y HP.out _) ?_; (try simp only [Act.put, List.setIfInBounds_toArray, List.set_cons_zero, List.set_cons_succ])) | (refine jc 28 rfl rfl (.int .u8 (z : Int)) (conv255 _ rfl y z HZ.out rfl _) ?_; (try simp only [Act.put, List.setIfInBounds_toArray, List.set_cons_zero, List.set_cons_succ])) | (refine yO 29 rfl rfl _ rfl (z) (hz) rfl ?_; intro w2 g2 G2 e2 K2; (try simp only [Act.put, List.setIfInBounds_toArray, List.set_cons_zero, List.set_cons_succ])) | (refine zR rfl ?_)))
      constructor
      have HO2 := HO.gro G2
      have hBr : B ≤ wr.heap.size := Nat.le_trans hB BB.size
      refine zS bT 30 rfl rfl _ _ rfl rfl HO2 (l' := [z]) rfl K2.nc (by have := HLL.out; simp; omega) (by decide) (Nat.le_trans hBr G2.size) ?_
      intro ao3 cap3 L3 w3 E3 HO3 B3
      replace BB : Below B _ w3 := Below.trans BB (Below.trans (Below.mono G2 hBr) B3)
      clear B3 HO2 K2 G2 HO
      simp only [Act.put, List.setIfInBounds_toArray, List.set_cons_zero, List.set_cons_succ]
      go_wp2
      go_light
      go_roundw
      case rel => exact ⟨j + 1, ao3, cap3, L3, by omega, by go_num, rfl, ⟨by rw [E3.out, EL.out, HE'.out]; simp⟩, HO3, BB⟩
      case measure => simp [intOf]; omega
section
variable {P : Program}
structure RowT (P : Program) (t e : TypeId) (sz b : Nat) (z : Value) : Prop where
  und : P.underlying t = some (.slice e)
  info : ∃ i, P.info? e = some i ∧ i.zero = some z ∧ i.size = sz ∧ i.bytes = b
  zs : z.cells.size = sz
  pos : 0 < sz
structure XC (w : World) (sz : Nat) (ao : Option Addr) (cap n : Nat) (cs : List Value) : Prop where
  len : cs.length = n * sz
  fit : n ≤ cap
  bare : ao = none → cap = 0
  cell : ∀ ad, ao = some ad → ∀ j v, cs[j]? = some v → w.cell? (ad.add j) = some v
  one : ∀ v ∈ cs, v.oneCell' = true
section
variable {w w' : World} {sz : Nat} {ao : Option Addr} {cap n : Nat} {cs : List Value}
theorem XC.below (h : XC w sz ao cap n cs) {B : Nat} (G : Below B w w') (hb : ∀ ad, ao = some ad → 0 < cs.length → ad.block < B) : XC w' sz ao cap n cs :=
  ⟨h.len, h.fit, h.bare, fun ad ha j v hv => (World.cell?_of_block (G.block _ (by rw [zY]; exact hb ad ha (by have := (List.getElem?_eq_some_iff.1 hv).1; omega)))).trans (h.cell ad ha j v hv), h.one⟩
theorem XC.lt (h : XC w sz ao cap n cs) : ∀ ad, ao = some ad → 0 < cs.length → ad.block < w.heap.size := fun ad ha h0 => by
  have := World.block_lt_of_cell? w _ (h.cell ad ha 0 cs[0] (List.getElem?_eq_getElem h0))
  rwa [zY] at this
theorem XC.gro (h : XC w sz ao cap n cs) (G : Gro w w') : XC w' sz ao cap n cs := h.below G h.lt
theorem XC.nil (w : World) (sz : Nat) : XC w sz none 0 0 [] := ⟨by simp, Nat.le_refl _, fun _ => rfl, fun _ h => by (cases h), fun _ h => by (cases h)⟩
theorem XC.some (h : XC w sz ao cap n cs) (h0 : 0 < n) : ∃ ad, ao = .some ad := by
  cases hao : ao with
  | none => have := h.bare hao; have := h.fit; omega
  | some ad => exact ⟨ad, rfl⟩
theorem XC.drop (h : XC w sz ao cap n cs) (i : Nat) (hi : i ≤ n) : XC w sz (if cap = i then ao else ao.map (·.add (i * sz))) (cap - i) (n - i) (cs.drop (i * sz)) := by
  have hf := h.fit
  have hl := h.len
  refine ⟨by rw [List.length_drop, hl, Nat.sub_mul], by omega, fun hn => ?_, fun ad ha j v hv => ?_, fun x hx => h.one x (List.mem_of_mem_drop hx)⟩
  · split at hn
    · have := h.bare hn; omega
    · cases hao : ao with
      | none => have := h.bare hao; omega
      | some a => rw [hao] at hn; cases hn
  · have hj := (List.getElem?_eq_some_iff.1 hv).1
    rw [List.length_drop, hl] at hj
    have hne : cap ≠ i := fun e => by
      have : n = i := by omega
      rw [this] at hj
      omega
    rw [if_neg hne] at ha
    rw [List.getElem?_drop] at hv
    cases hao : ao with
    | none => rw [hao] at ha; cases ha
    | some a =>
      rw [hao] at ha
      cases ha
      rw [JK]
      exact h.cell a hao _ v hv
theorem XC.take (h : XC w sz ao cap n cs) (i : Nat) (hi : i ≤ n) : XC w sz ao cap i (cs.take (i * sz)) := by
  have hf := h.fit
  have hl := h.len
  have hm : i * sz ≤ n * sz := Nat.mul_le_mul_right _ hi
  refine ⟨by rw [List.length_take, hl]; omega, by omega, h.bare, fun ad ha j v hv => ?_, fun x hx => h.one x (List.mem_of_mem_take hx)⟩
  rw [List.getElem?_take] at hv
  split at hv
  · exact h.cell ad ha j v hv
  · cases hv
theorem NC.xc {k : IntKind} {l : List Nat} (h : NC w k ao cap l) : XC w 1 ao cap l.length (l.map fun r : Nat => Value.int k (r : Int)) :=
  ⟨by simp, h.fit, h.bare, fun ad ha j v hv => by
    rw [List.getElem?_map] at hv
    by_cases hj : j < l.length
    · rw [List.getElem?_eq_getElem hj] at hv
      have hc := h.cell ad ha j hj
      rw [List.getD_eq_getElem?_getD, List.getElem?_eq_getElem hj] at hc
      rw [hc]
      simpa using hv
    · rw [List.getElem?_eq_none (by omega)] at hv
      (cases hv), fun v hv => by (obtain ⟨r, _, rfl⟩ := List.mem_map.1 hv; rfl)⟩
end
structure OX (w : World) (e : TypeId) (sz B : Nat) (ao : Option Addr) (cap n : Nat) (cs : List Value) : Prop where
  own : w.ownsRow B e sz (.slice ao n cap) n cs
  one : ∀ v ∈ cs, v.oneCell' = true
section
variable {w w' : World} {e : TypeId} {sz B : Nat} {ao : Option Addr} {cap n : Nat} {cs : List Value}
theorem OX.nil (w : World) (e : TypeId) (sz B : Nat) : OX w e sz B none 0 0 [] := ⟨World.ownsRow_nil _ _ _ _, fun _ h => by (cases h)⟩
theorem OX.xc (h : OX w e sz B ao cap n cs) : XC w sz ao cap n cs := by
  have hl := h.own.1
  rcases h.own.2 with ⟨h1, h2⟩ | ⟨g, c, cur, h1, _, h2, h3, _, h4, h5⟩
  · injection h1 with e1 e2 e3
    subst e1 e3
    exact ⟨hl, by omega, fun _ => rfl, fun _ h => by (cases h), h.one⟩
  · injection h1 with e1 e2 e3
    subst e1 e3
    refine ⟨hl, h3, fun h => by (cases h), fun ad ha j v hv => ?_, h.one⟩
    cases ha
    rw [zQ, Nat.zero_add, cell_of_row w g j _ e _ h2]
    have hj := (List.getElem?_eq_some_iff.1 hv).1
    rw [← h5, List.getElem?_take, if_pos (by omega)] at hv
    simpa using hv
theorem OX.ge (h : OX w e sz B ao cap n cs) : ∀ ad, ao = some ad → B ≤ ad.block ∧ ad.block < w.heap.size := fun ad ha => by
  subst ha
  exact h.own.lt _ rfl
theorem OX.gro (h : OX w e sz B ao cap n cs) (G : Gro w w') : OX w' e sz B ao cap n cs :=
  ⟨h.own.kept (uj G) (by cases hv : (Value.slice ao n cap).ownBlock <;> simp), h.one⟩
theorem OX.mono (h : OX w e sz B ao cap n cs) {B' : Nat} (hB : B' ≤ B) : OX w e sz B' ao cap n cs := by
  refine ⟨⟨h.own.1, ?_⟩, h.one⟩
  rcases h.own.2 with h1 | ⟨g, c, cur, h1, h2, h3⟩
  · exact .inl h1
  · exact .inr ⟨g, c, cur, h1, by omega, h3⟩
theorem OX.apart (h : OX w e sz B ao cap n cs) {g : Nat} {x : Obj} (S : Stored w w' g x) (hne : ∀ ad, ao = some ad → ad.block ≠ g) : OX w' e sz B ao cap n cs :=
  ⟨h.own.kept (row := some g) ⟨S.os, S.tape, S.output, Nat.le_of_eq S.size.symm, fun k _ hk => S.old k (fun e => hk (by rw [e]))⟩ (by
    cases ao with
    | none => exact .inl rfl
    | some ad => exact .inr fun e => hne ad rfl (by simpa [Value.ownBlock] using e)), h.one⟩
theorem OX.made {g : Nat} {cur : Array Value} (hg : w.heap[g]? = some (.cells cur e (0, 0))) (hB : B ≤ g) (hn : n ≤ cap) (hm : cap ≤ maxLen) (hc : cur.size = cap * sz) (hl : cs.length = n * sz) (ht : cur.toList.take (n * sz) = cs) (h1 : ∀ v ∈ cs, v.oneCell' = true) : OX w e sz B (some ⟨g, 0, none⟩) cap n cs :=
  ⟨⟨hl, .inr ⟨g, cap, cur, rfl, hB, hg, hn, hm, hc, ht⟩⟩, h1⟩
theorem OB.ox {k : IntKind} {l : List Nat} (h : OB w e k B ao cap l) : OX w e 1 B ao cap l.length (l.map fun r : Nat => Value.int k (r : Int)) :=
  ⟨h.own, fun v hv => by obtain ⟨r, _, rfl⟩ := List.mem_map.1 hv; rfl⟩
end
section
variable {o : Oper} {A : Act} {t e : TypeId} {sz b : Nat} {z : Value}
theorem KI (T : RowT P t e sz b z) (w : World) : (sizeOf e).run P w = .ok sz w := by
  obtain ⟨i, hi, _, hs, _⟩ := T.info
  simp [sizeOf, typeInfo, hi, hs]
theorem VY (T : RowT P t e sz b z) (x y : Operand) (ho : o.op = .indexAddr t x y) (ad : Addr) (n cap j : Nat) (hx : A.eval x = .slice (some ad) n cap) (hy : A.eval y = .int .i64 (j : Int)) (hj : j < n) (w : World) :
    (execOp A.eval o).run P w = .ok (.value (.pointer (some (ad.add (j * sz))))) w := by
  have h : (Instr.indexAt t (.slice (some ad) n cap) (.int .i64 (j : Int))).run P w = .ok (.pointer (some (ad.add (j * sz)))) w := by
    simp only [Instr.indexAt, Sem.run_bind, run_underlying T.und, Result.andThen_ok]
    simp [asIntOf, hj, KI T]
  unfold execOp
  simp only [ho, hx, hy, Sem.run_bind, h, Result.andThen_ok, Sem.run_pure]
end
end
end Go.Proofs.YtgfnjekpafempaaGreat
