/- Wire: a number behind a row. -/
import Derived.Test.YtgfnjekpafempaaEB3
namespace Go.Proofs.Ytgfnjekpafempaa
open Go.RowKit
theorem wpList_stop {P : Program} {ops : Array Oper} {rest : List Oper} {o : Oper} {a : Act} {w : World} {Q : Exit → Act → World → Prop} {s x : Operand} {t1 t2 : TypeId} (_ho : o.op = .call { callee := .builtin .append, args := #[s, x], argTypes := #[t1, t2] }) (h : Stop (wpList P ops Q (o :: rest) a w)) : wpList P ops Q (o :: rest) a w := h.out
section
variable {P : Program} {o : Oper} {A : Act} {w : World}
theorem wrap_in (r : Int) (h1 : -9223372036854775808 ≤ r) (h2 : r < 9223372036854775808) : IntKind.i64.wrap r = r := by
  simp [IntKind.wrap, IntKind.bits, IntKind.signed]
  omega
theorem run_add64 (x y : Operand) (t2 : TypeId) (ho : o.op = .binOp .add 3 x y t2) (a b r : Int) (hx : A.eval x = .int .i64 a) (hy : A.eval y = .int .i64 b) (hr : a + b = r) (h1 : -9223372036854775808 ≤ r) (h2 : r < 9223372036854775808) (w : World) : (execOp A.eval o).run P w = .ok (.value (.int .i64 r)) w := by
  refine run_binop .add 3 x y t2 ho _ _ _ hx hy (by simp [eqGuard]) ?_
  subst hr
  have := wrap_in _ h1 h2
  simp [binOp, Op.intArith, this]
theorem run_sub64 (x y : Operand) (t2 : TypeId) (ho : o.op = .binOp .sub 3 x y t2) (a b r : Int) (hx : A.eval x = .int .i64 a) (hy : A.eval y = .int .i64 b) (hr : a - b = r) (h1 : -9223372036854775808 ≤ r) (h2 : r < 9223372036854775808) (w : World) : (execOp A.eval o).run P w = .ok (.value (.int .i64 r)) w := by
  refine run_binop .sub 3 x y t2 ho _ _ _ hx hy (by simp [eqGuard]) ?_
  subst hr
  have := wrap_in _ h1 h2
  simp [binOp, Op.intArith, this]
theorem run_mul64 (x y : Operand) (t2 : TypeId) (ho : o.op = .binOp .mul 3 x y t2) (a b r : Int) (hx : A.eval x = .int .i64 a) (hy : A.eval y = .int .i64 b) (hr : a * b = r) (h1 : -9223372036854775808 ≤ r) (h2 : r < 9223372036854775808) (w : World) : (execOp A.eval o).run P w = .ok (.value (.int .i64 r)) w := by
  refine run_binop .mul 3 x y t2 ho _ _ _ hx hy (by simp [eqGuard]) ?_
  subst hr
  have := wrap_in _ h1 h2
  simp [binOp, Op.intArith, this]
theorem run_quo64 (x y : Operand) (t2 : TypeId) (ho : o.op = .binOp .quo 3 x y t2) (a b r : Int) (hx : A.eval x = .int .i64 a) (hy : A.eval y = .int .i64 b) (hb : b ≠ 0) (hr : a.tdiv b = r) (h1 : -9223372036854775808 ≤ r) (h2 : r < 9223372036854775808) (w : World) : (execOp A.eval o).run P w = .ok (.value (.int .i64 r)) w := by
  refine run_binop .quo 3 x y t2 ho _ _ _ hx hy (by simp [eqGuard]) ?_
  subst hr
  have := wrap_in _ h1 h2
  simp [binOp, Op.intDiv, hb, this]
theorem run_shr64 (t t2 : TypeId) (x y : Operand) (ho : o.op = .binOp .shr t x y t2) (n m : Nat) (ky : IntKind) (hx : A.eval x = .int .u64 (n : Int)) (hy : A.eval y = .int ky (m : Int)) (hm : m ≤ 64) (r : Nat) (hr : n / 2 ^ m = r) (w : World) : (execOp A.eval o).run P w = .ok (.value (.int .u64 (r : Int))) w := by
  refine run_binop .shr t x y t2 ho _ _ _ hx hy (by simp [eqGuard]) ?_
  subst hr
  have h1 : ¬ ((m : Int) < 0) := by omega
  have h2 : min m IntKind.u64.bits = m := by
    have : IntKind.u64.bits = 64 := rfl
    omega
  simp [binOp]
theorem run_lss64 (x y : Operand) (t2 : TypeId) (ho : o.op = .binOp .lss 3 x y t2) (a b : Int) (hx : A.eval x = .int .i64 a) (hy : A.eval y = .int .i64 b) (p : Bool) (hp : decide (a < b) = p) (w : World) : (execOp A.eval o).run P w = .ok (.value (.bool p)) w := by
  rw [run_lss_op 3 x y t2 ho .i64 a b hx hy w, hp]
end
theorem conv35 {o : Oper} {A : Act} (x : Operand) (ho : o.op = .convert 3 5 x) (n : Nat) (hn : n < 256) (hx : A.eval x = .int .i64 (n : Int)) (w : World) : (execOp A.eval o).run Try.prog w = .ok (.value (.int .u8 (n : Int))) w := by
  have h : IntKind.u8.wrap (n : Int) = (n : Int) := by
    simp [IntKind.wrap, IntKind.bits, IntKind.signed]
    omega
  unfold execOp
  simp only [ho, hx]
  simp [go_sem, h]
theorem conv255 {o : Oper} {A : Act} (x : Operand) (ho : o.op = .convert 75 5 x) (n r : Nat) (hn : n % 256 = r) (hx : A.eval x = .int .u64 (n : Int)) (w : World) : (execOp A.eval o).run Try.prog w = .ok (.value (.int .u8 (r : Int))) w := by
  rw [run_conv8 x ho _ hx]
  congr 3
  omega
theorem run_one {o : Oper} {A : Act} (x : Operand) (ho : o.op = .buildSlice 30 1 #[(0, x)]) (z : Int) (hx : A.eval x = .int .u8 z) (w : World) :
    (execOp A.eval o).run Try.prog w = .ok (.value (.slice (some ⟨w.heap.size, 0, none⟩) 1 1)) (w.alloc (.cells #[.int .u8 z] 5)) := by
  have h1 : (Instr.buildSlice 30 1 #[(0, .int .u8 z)]).run Try.prog w = .ok (.slice (some ⟨w.heap.size, 0, none⟩) 1 1) (w.alloc (.cells #[.int .u8 z] 5)) := by kernel_rfl
  unfold execOp
  simp only [ho, List.map_toArray, List.map_cons, List.map_nil, hx, Sem.run_bind, h1, Result.andThen_ok, Sem.run_pure]
theorem OB.one {w : World} {g : Nat} {e : TypeId} {k : IntKind} {z : Nat} {B : Nat} (hg : w.heap[g]? = some (.cells #[.int k (z : Int)] e (0, 0))) (hB : B ≤ g) (hz : (z : Int) ≤ k.max) : OB w e k B (some ⟨g, 0, none⟩) 1 [z] :=
  OB.made hg hB (Nat.le_refl _) (by decide) rfl rfl (fun x hx => by simp at hx; subst hx; exact hz)
/-- A slice of one byte. -/
theorem wpList_one {ops : Array Oper} {rest : List Oper} {o : Oper} {a : Act} {w : World} {Q : Exit → Act → World → Prop} (dst : Nat) (hd : o.dst = some dst) (hgd : o.guard = none) (x : Operand) (ho : o.op = .buildSlice 30 1 #[(0, x)]) (z : Nat) (hz : z < 256) (hx : a.eval x = .int .u8 (z : Int))
    (h : ∀ w' g, Gro w w' → w.heap.size = g → OB w' 5 .u8 g (some ⟨g, 0, none⟩) 1 [z] → wpList Try.prog ops Q rest (a.put (some dst) (.slice (some ⟨g, 0, none⟩) 1 1)) w') : wpList Try.prog ops Q (o :: rest) a w :=
  wpList_plain hgd fun _ hK => by
    unfold Oper.wp
    rw [run_one x ho z hx, Oper.upon_value, hd]
    exact hK _ _ (h _ _ (gro_alloc _ _) rfl (OB.one (heap_alloc_new _ _) (Nat.le_refl _) (by rw [max_u8]; omega)))
def AppP (w : World) (B : Nat) (l : List Nat) (e : Ending) (w' : World) : Prop := ∃ ao cap L, e = .returned (.slice ao (List.length L) cap) ∧ Shut (L = l) ∧ OB w' 5 .u8 B ao cap L ∧ Below B w w'
theorem quo_nb (b m : Nat) (h : (b + 7) / 8 = m) : ((b + 7 : Nat) : Int).tdiv 8 = (m : Int) := by
  subst h
  rw [Int.tdiv_eq_ediv_of_nonneg (by omega)]
  omega
set_option maxHeartbeats 1600000 in
theorem appendNum_any (n : Nat) (hn : n < lim) (ao : Option Addr) (cap : Nat) (l : List Nat) (B : Nat) (w : World) (HO : OB w 5 .u8 B ao cap l) (hB : B ≤ w.heap.size) (hlen : l.length ≤ 140737488355000) : Calls Try.prog 73 #[.slice ao l.length cap, .int .u64 (n : Int)] w (AppP w B (l ++ numL n)) := by
  have HN : Shut (n < lim) := ⟨hn⟩
  have hm8 := nb_le n
  have HG : Shut (∀ i, i < nb n → (beL (nb n) n).getD i 0 = n / 256 ^ (nb n - 1 - i) % 256) := ⟨beL_get (nb n) n⟩
  have HL : Shut (∀ L j, L = l ++ (nb n :: (beL (nb n) n).take j) → j ≤ nb n → L.length = l.length + 1 + j ∧ (j = nb n → L = l ++ numL n)) := ⟨fun L j e hj => by
    subst e
    have := beL_len (nb n) n
    refine ⟨by simp; omega, fun e => ?_⟩
    rw [e, List.take_of_length_le (by omega)]
    rfl⟩
  have HT : Shut (∀ j, j < nb n → (beL (nb n) n).take (j + 1) = (beL (nb n) n).take j ++ [n / 256 ^ (nb n - 1 - j) % 256]) := ⟨fun j hj => by
    have hl := beL_len (nb n) n
    have h := beL_get (nb n) n j hj
    rw [List.take_add_one, ← h, List.getD_eq_getElem?_getD, List.getElem?_eq_getElem (by omega)]
    rfl⟩
  clear hn HG
  obtain ⟨m, hm⟩ : ∃ m, nb n = m := ⟨_, rfl⟩
  have HM : Shut (nb n = m) := ⟨hm⟩
  rw [hm] at hm8 HL HT
  clear hm
  go_enter Try.func73, Try.ntmps73
  go_wp2_with (first | (go_at_call 94; refine (len64_any n HN.out _).mono ?_; rintro e wN ⟨b, rfl, hb, hq, hw⟩; replace hw := hw.symm; subst hw; have HQ := quo_nb b m (hq.trans HM.out); have HQ' : Shut _ := ⟨HQ⟩; clear HQ hq) | (with_reducible refine wpList_at ?_; first | (refine wpList_value_d 9 rfl rfl (.int .i64 ((b + 7 : Nat) : Int)) (run_add64 _ _ _ rfl (b : Int) 7 _ rfl rfl (by omega) (by omega) (by omega) _) ?_; (try simp only [Act.put, List.setIfInBounds_toArray, List.set_cons_zero, List.set_cons_succ])) | (refine wpList_value_d 10 rfl rfl (.int .i64 (m : Int)) (run_quo64 _ _ _ rfl ((b + 7 : Nat) : Int) 8 _ rfl rfl (by decide) HQ'.out (by omega) (by omega) _) ?_; (try simp only [Act.put, List.setIfInBounds_toArray, List.set_cons_zero, List.set_cons_succ])) | (refine wpList_value_d 13 rfl rfl (.int .u8 (m : Int)) (conv35 _ rfl m (by omega) rfl _) ?_; (try simp only [Act.put, List.setIfInBounds_toArray, List.set_cons_zero, List.set_cons_succ])) | (refine wpList_one 14 rfl rfl _ rfl (m) (by omega) rfl ?_; intro w2 g2 G2 e2 K2; (try simp only [Act.put, List.setIfInBounds_toArray, List.set_cons_zero, List.set_cons_succ])) | (refine wpList_stop rfl ?_)))
  constructor
  have HO2 := HO.gro G2
  refine wpList_app bT 15 rfl rfl _ _ rfl rfl HO2 (l' := [m]) rfl K2.nc (by simp; omega) (by decide) (Nat.le_trans hB G2.size) ?_
  intro ao3 cap3 L3 w3 E3 HO3 B3
  have BB : Below B _ w3 := Below.trans (Below.mono G2 hB) B3
  clear B3 HO2 K2 G2 HO
  simp only [Act.put, List.setIfInBounds_toArray, List.set_cons_zero, List.set_cons_succ]
  go_wp2
  go_loopw [0, 17] (fun v i wr => ∃ (j : Nat) (ao : Option Addr) (cap : Nat) (L : List Nat), j ≤ m ∧ i = .int .i64 (j : Int) ∧ v = .slice ao L.length cap ∧ Shut (L = l ++ (m :: (beL m n).take j)) ∧ OB wr 5 .u8 B ao cap L ∧ Below B w wr) (fun _ i _ => m - (intOf i).toNat)
  case atStart => exact ⟨0, ao3, cap3, L3, by omega, rfl, rfl, ⟨by rw [E3.out]; rfl⟩, HO3, BB⟩
  case round =>
    rename_i wr
    clear HO3 E3 BB
    obtain ⟨j, ao, cap, L, hj, rfl, rfl, EL, HO, BB⟩ := hrel
    have hLl := (HL.out L j EL.out hj).1
    cases hlt : decide ((j : Int) < (m : Int))
    · have ej : j = m := by simp at hlt; omega
      have EF : Shut (L = l ++ numL n) := ⟨(HL.out L j EL.out hj).2 ej⟩
      clear ej hLl
      go_wp2_with (first | (with_reducible refine wpList_at ?_; first | (refine wpList_value_d 18 rfl rfl (.bool false) (run_lss64 _ _ _ rfl (j : Int) (m : Int) rfl rfl false hlt _) ?_; (try simp only [Act.put, List.setIfInBounds_toArray, List.set_cons_zero, List.set_cons_succ]))))
      go_ret
      exact ⟨ao, cap, L, rfl, EF, HO, BB⟩
    · have hjm : j < m := by simp at hlt; omega
      have HLL : Shut (L.length = l.length + 1 + j) := ⟨hLl⟩
      have HE := HT.out j hjm
      have HE' : Shut _ := ⟨HE⟩
      clear HE hLl
      have hp : n / 2 ^ (8 * (m - 1 - j)) = n / 256 ^ (m - 1 - j) := by rw [Nat.pow_mul]
      have HP : Shut _ := ⟨hp⟩
      clear hp
      obtain ⟨y, hy⟩ : ∃ y, n / 256 ^ (m - 1 - j) = y := ⟨_, rfl⟩
      rw [hy] at HP HE'
      clear hy
      have hz : y % 256 < 256 := Nat.mod_lt _ (by decide)
      obtain ⟨z, hyz⟩ : ∃ z, y % 256 = z := ⟨_, rfl⟩
      rw [hyz] at HE' hz
      have HZ : Shut (y % 256 = z) := ⟨hyz⟩
      clear hyz
      go_wp2_with (first | (with_reducible refine wpList_at ?_; first | (refine wpList_value_d 18 rfl rfl (.bool true) (run_lss64 _ _ _ rfl (j : Int) (m : Int) rfl rfl true hlt _) ?_; (try simp only [Act.put, List.setIfInBounds_toArray, List.set_cons_zero, List.set_cons_succ])) | (refine wpList_value_d 23 rfl rfl (.int .i64 ((m - 1 : Nat) : Int)) (run_sub64 _ _ _ rfl (m : Int) 1 _ rfl rfl (by omega) (by omega) (by omega) _) ?_; (try simp only [Act.put, List.setIfInBounds_toArray, List.set_cons_zero, List.set_cons_succ])) | (refine wpList_value_d 25 rfl rfl (.int .i64 ((m - 1 - j : Nat) : Int)) (run_sub64 _ _ _ rfl ((m - 1 : Nat) : Int) (j : Int) _ rfl rfl (by omega) (by omega) (by omega) _) ?_; (try simp only [Act.put, List.setIfInBounds_toArray, List.set_cons_zero, List.set_cons_succ])) | (refine wpList_value_d 26 rfl rfl (.int .i64 ((8 * (m - 1 - j) : Nat) : Int)) (run_mul64 _ _ _ rfl 8 ((m - 1 - j : Nat) : Int) _ rfl rfl (by omega) (by omega) (by omega) _) ?_; (try simp only [Act.put, List.setIfInBounds_toArray, List.set_cons_zero, List.set_cons_succ])) | (refine wpList_value_d 27 rfl rfl (.int .u64 (y : Int)) (run_shr64 _ _ _ _ rfl n (8 * (m - 1 - j)) .i64 rfl rfl (by omega) y HP.out _) ?_; (try simp only [Act.put, List.setIfInBounds_toArray, List.set_cons_zero, List.set_cons_succ])) | (refine wpList_value_d 28 rfl rfl (.int .u8 (z : Int)) (conv255 _ rfl y z HZ.out rfl _) ?_; (try simp only [Act.put, List.setIfInBounds_toArray, List.set_cons_zero, List.set_cons_succ])) | (refine wpList_one 29 rfl rfl _ rfl (z) (hz) rfl ?_; intro w2 g2 G2 e2 K2; (try simp only [Act.put, List.setIfInBounds_toArray, List.set_cons_zero, List.set_cons_succ])) | (refine wpList_stop rfl ?_)))
      constructor
      have HO2 := HO.gro G2
      have hBr : B ≤ wr.heap.size := Nat.le_trans hB BB.size
      refine wpList_app bT 30 rfl rfl _ _ rfl rfl HO2 (l' := [z]) rfl K2.nc (by have := HLL.out; simp; omega) (by decide) (Nat.le_trans hBr G2.size) ?_
      intro ao3 cap3 L3 w3 E3 HO3 B3
      replace BB : Below B _ w3 := Below.trans BB (Below.trans (Below.mono G2 hBr) B3)
      clear B3 HO2 K2 G2 HO
      simp only [Act.put, List.setIfInBounds_toArray, List.set_cons_zero, List.set_cons_succ]
      go_wp2
      go_light
      go_roundw
      case rel => exact ⟨j + 1, ao3, cap3, L3, by omega, by go_num, rfl, ⟨by rw [E3.out, EL.out, HE'.out]; simp⟩, HO3, BB⟩
      case measure => simp [intOf]; omega
end Go.Proofs.Ytgfnjekpafempaa
