/- The document's Append. -/
import Derived.Test.YtgfnjekpafempaaGE13
namespace Go.Proofs.Ytgfnjekpafempaa
open Go.RowKit
/-- The chunk of a record that is handed to a write. -/
def rawW (l : List Nat) : List Nat := (l.length / 256) :: (l.length % 256) :: l
theorem rawW_len (l : List Nat) : (rawW l).length = l.length + 2 := by simp [rawW]
theorem rawW_rec (l : List Nat) : recW l = rawW l ++ zs (secN l.length * 64 - (l.length + 2)) := by
  simp only [recW, rawW, List.cons_append]
  rw [Nat.sub_sub, Nat.add_comm 2]
theorem chunk_pad {l : List Nat} {j : Nat} (hj : j < secN l.length) : padS (((rawW l).drop (j * 64)).take 64) = ((recW l).drop (j * 64)).take 64 := by
  have hl := rawW_len l
  have hk : secN l.length * 64 < l.length + 2 + 64 := by unfold secN; omega
  have h1 : j * 64 ≤ (rawW l).length := by rw [hl]; omega
  rw [rawW_rec, List.drop_append_of_le_length h1, padS]
  by_cases h : 64 ≤ ((rawW l).drop (j * 64)).length
  · rw [List.take_append_of_le_length h, List.length_take, Nat.min_eq_left h]
    simp [zs]
  · have h2 : ((rawW l).drop (j * 64)).length = l.length + 2 - j * 64 := by rw [List.length_drop, hl]
    rw [List.take_of_length_le (by omega), List.take_append, List.take_of_length_le (by omega)]
    congr 1
    simp only [zs, List.take_replicate]
    congr 1
    have : (j + 1) * 64 ≤ secN l.length * 64 := Nat.mul_le_mul_right _ hj
    omega
theorem chunk_len (l : List Nat) (j : Nat) : (((rawW l).drop (j * 64)).take 64).length ≤ 64 := by rw [List.length_take]; omega
theorem run_quoUe {P : Program} {o : Oper} {A : Act} (t t2 : TypeId) (x y : Operand) (ho : o.op = .binOp .quo t x y t2) (a m : Nat) (hx : A.eval x = .int .u64 (a : Int)) (hy : A.eval y = .int .u64 (m : Int)) (hm : m ≠ 0) (ha : a < lim) (w : World) : (execOp A.eval o).run P w = .ok (.value (.int .u64 ((a / m : Nat) : Int))) w := by
  refine run_binop .quo t x y t2 ho _ _ _ hx hy (by simp [eqGuard]) ?_
  have h1 : (a : Int).tdiv (m : Int) = ((a / m : Nat) : Int) := tdivN a m
  have h2 : (m : Int) ≠ 0 := by omega
  have h3 : IntKind.u64.wrap ((a / m : Nat) : Int) = ((a / m : Nat) : Int) := by
    have : a / m ≤ a := Nat.div_le_self _ _
    have hl : lim = 18446744073709551616 := rfl
    generalize a / m = c at *
    simp [IntKind.wrap, IntKind.bits, IntKind.signed]
    omega
  simp only [binOp, Op.intDiv, if_neg h2, h1, h3]
  rfl
/-- Noughts with a number laid from the back. -/
def layB (C : List Nat) (off x j : Nat) : List Nat := wr C (off + 8 - j) ((beL 8 x).drop (8 - j))
theorem layB_0 (C : List Nat) (off x : Nat) : layB C off x 0 = C := by
  rw [layB, Nat.sub_zero, List.drop_of_length_le (by rw [beL_len]; exact Nat.le_refl _), wr_none]
theorem beL_drop {x j : Nat} (hj : j < 8) : (beL 8 x).drop (8 - (j + 1)) = (x / 256 ^ j % 256) :: (beL 8 x).drop (8 - j) := by
  have hl := beL_len 8 x
  rw [List.drop_eq_getElem_cons (by omega)]
  have h1 : (beL 8 x)[8 - (j + 1)]'(by omega) = x / 256 ^ j % 256 := by
    have := beL_get 8 x (8 - (j + 1)) (by omega)
    rw [List.getD_eq_getElem?_getD, List.getElem?_eq_getElem (by omega), Option.getD_some] at this
    rw [this, show 8 - 1 - (8 - (j + 1)) = j by omega]
  rw [h1, show 8 - (j + 1) + 1 = 8 - j by omega]
theorem layB_len {C : List Nat} {off x j : Nat} (hC : off + 8 ≤ C.length) (hj : j ≤ 8) : (layB C off x j).length = C.length := by
  rw [layB, wr_len]
  rw [List.length_drop, beL_len]
  omega
theorem layB_next {C : List Nat} {off x j : Nat} (hC : off + 8 ≤ C.length) (hj : j < 8) : (layB C off x j).set (off + 7 - j) (x / 256 ^ j % 256) = layB C off x (j + 1) := by
  have hl : ((beL 8 x).drop (8 - j)).length = j := by rw [List.length_drop, beL_len]; omega
  have h1 : (C.take (off + 8 - (j + 1))).length = off + 7 - j := by rw [List.length_take]; omega
  rw [layB, layB, beL_drop hj, wr, wr, hl, List.length_cons, hl]
  have e1 : C.take (off + 8 - j) = C.take (off + 8 - (j + 1)) ++ [C.getD (off + 7 - j) 0] := by
    rw [show off + 8 - j = (off + 8 - (j + 1)) + 1 by omega, take_one _ 0 _ (by omega), show off + 8 - (j + 1) = off + 7 - j by omega]
  rw [e1, List.append_assoc, List.append_assoc, List.set_append_right _ _ (by omega), h1, Nat.sub_self]
  simp only [List.cons_append, List.nil_append, List.set_cons_zero, List.append_assoc]
  rw [show off + 8 - (j + 1) + (j + 1) = off + 8 - j + j by omega]
theorem layB_8 {C : List Nat} {off x : Nat} (_hC : off + 8 ≤ C.length) : layB C off x 8 = wr C off (beL 8 x) := by
  rw [layB, show off + 8 - 8 = off by omega, Nat.sub_self, List.drop_zero]
theorem head_made (h : Hd) : wr (wr (wr (zs 24) 0 (beL 8 h.g)) 8 (beL 8 h.u)) 16 (beL 8 h.c) = hdL h := by
  have l1 := beL_len 8 h.g
  have l2 := beL_len 8 h.u
  have l3 := beL_len 8 h.c
  have e1 : wr (zs 24) 0 (beL 8 h.g) = beL 8 h.g ++ zs 16 := by rw [wr_padn, l1]
  have e2 : wr (beL 8 h.g ++ zs 16) 8 (beL 8 h.u) = beL 8 h.g ++ (beL 8 h.u ++ zs 8) := by
    rw [wr, List.take_left' l1, l2, ← List.drop_drop, List.drop_left' l1, List.append_assoc]
    rfl
  rw [e1, e2, wr, hdL, l3]
  have l4 : (beL 8 h.g ++ beL 8 h.u).length = 16 := by rw [List.length_append, l1, l2]
  rw [← List.append_assoc, List.take_left' l4, show 16 + 8 = 16 + 8 from rfl, ← List.drop_drop, List.drop_left' l4]
  simp [zs, List.append_assoc]
theorem div_stp (x j : Nat) : x / 256 ^ j / 256 = x / 256 ^ (j + 1) := by rw [Nat.div_div_eq_div_mul, ← Nat.pow_succ]
def RApP (w : World) (mp rp B : Nat) (ro : Option Addr) (rc n : Nat) (L : List Nat) (pw dn : Int) (h : Hd) (l : List Nat) (e : Ending) (w' : World) : Prop :=
  ∃ dn', e = .returned (.int .i64 (bif apOK pw (secN l.length) then 0 else 8)) ∧ GroS (rp :: mp :: blk ro) w w' ∧ dn ≤ dn' ∧ dn' ≤ dn + 20 ∧ QK w' rp B ro rc n (apL L pw h l) (apP pw (secN l.length)) dn' ∧ MK w' mp rp (apH pw h l) (!apOK pw (secN l.length))
set_option maxRecDepth 100000 in
set_option maxHeartbeats 4000000 in
theorem rappend_down (w : World) (mp rp : Nat) (h : Hd) (HM : MK w mp rp h true) (ao : Option Addr) (cap : Nat) (l : List Nat) : Calls Try.prog 11 #[.pointer (some ⟨mp, 0, none⟩), .slice ao l.length cap] w fun e w' => e = .returned (.int .i64 8) ∧ Gro w w' := by
  refine s_enter Try.func11 rfl Try.ntmps11 [.pointer (some ⟨mp, 0, none⟩), .slice ao l.length cap] [.pointer (some ⟨mp, 0, none⟩), .slice ao l.length cap, undef, undef, undef, undef, undef, undef, undef, undef, undef, undef, undef, undef, undef, undef, undef, undef, undef, undef, undef, undef, undef, undef, undef, undef, undef, undef, undef, undef, undef, undef, undef, undef, undef, undef, undef, undef, undef, undef, undef, undef, undef, undef, undef, undef, undef, undef, undef, undef, undef, undef, undef, undef, undef, undef, undef, undef, undef, undef, undef, undef, undef, undef, undef, undef, undef, undef, undef, undef, undef, undef, undef, undef, undef, undef, undef, undef, undef, undef, undef, undef, undef, undef, undef, undef, undef, undef, undef, undef, undef, undef, undef, undef, undef, undef, undef, undef, undef, undef, undef, undef, undef, undef, undef, undef, undef, undef, undef, undef, undef, undef, undef, undef, undef, undef, undef, undef, undef, undef, undef, undef, undef, undef, undef, undef, undef, undef, undef, undef, undef, undef, undef, undef, undef, undef, undef, undef, undef, undef, undef, undef, undef, undef, undef, undef, undef, undef, undef, undef, undef, undef, undef, undef, undef, undef, undef, undef, undef, undef, undef, undef, undef, undef, undef, undef, undef, undef, undef, undef, undef, undef] rfl ?_
  have GG := Gro.refl w
  have kmp := HM.box
  refine wp_seq ?_
  refine wp_region_lit ?_
  refine s_val 4 rfl rfl (.int .i64 0) (rfl) ?_
  refine nr ?_; intro U h; simp only [z0, z1] at h; subst h
  refine wpList_nil ?_
  refine then_n ?_
  refine wp_seq ?_
  refine wp_seq ?_
  refine wp_region_lit ?_
  refine s_val 18 rfl rfl (.pointer (some ⟨mp, 0, none⟩)) (rfl) ?_
  refine nr ?_; intro U h; simp only [z0, z1] at h; subst h
  refine s_val 19 rfl rfl (.pointer (some ⟨mp, 0, none⟩)) (run_nc _ rfl _ rfl) ?_
  refine nr ?_; intro U h; simp only [z0, z1] at h; subst h
  refine s_val 20 rfl rfl (.pointer (some ⟨mp, 4, none⟩)) (run_fld 79 _ 4 rfl _ _ rfl _ (by kernel_rfl)) ?_
  refine nr ?_; intro U h; simp only [z0, z1] at h; subst h
  refine s_val 21 rfl rfl (.bool true) (run_ldc 4 _ rfl mp 4 rfl 79 _ kmp (na4 _) _ rfl) ?_
  refine nr ?_; intro U h; simp only [z0, z1] at h; subst h
  refine wpList_nil ?_
  refine then_n ?_
  refine wp_cond_true rfl ?_
  refine wp_seq ?_
  refine wp_region_lit ?_
  refine s_val 4 rfl rfl (.int .i64 8) (rfl) ?_
  refine nr ?_; intro U h; simp only [z0, z1] at h; subst h
  refine wpList_nil ?_
  refine then_n ?_
  refine wp_ret ?_
  refine then_r ?_
  refine bodyPost_ret (results_tmp Try.results11 _ _ _) rfl ?_
  exact ⟨rfl, GG⟩
set_option maxRecDepth 100000 in
set_option maxHeartbeats 4000000 in
theorem rappend_long (w : World) (mp rp : Nat) (h : Hd) (HM : MK w mp rp h false) (ao : Option Addr) (cap : Nat) (l : List Nat) (hl : 1024 < l.length) : Calls Try.prog 11 #[.pointer (some ⟨mp, 0, none⟩), .slice ao l.length cap] w fun e w' => e = .returned (.int .i64 4) ∧ Gro w w' := by
  refine s_enter Try.func11 rfl Try.ntmps11 [.pointer (some ⟨mp, 0, none⟩), .slice ao l.length cap] [.pointer (some ⟨mp, 0, none⟩), .slice ao l.length cap, undef, undef, undef, undef, undef, undef, undef, undef, undef, undef, undef, undef, undef, undef, undef, undef, undef, undef, undef, undef, undef, undef, undef, undef, undef, undef, undef, undef, undef, undef, undef, undef, undef, undef, undef, undef, undef, undef, undef, undef, undef, undef, undef, undef, undef, undef, undef, undef, undef, undef, undef, undef, undef, undef, undef, undef, undef, undef, undef, undef, undef, undef, undef, undef, undef, undef, undef, undef, undef, undef, undef, undef, undef, undef, undef, undef, undef, undef, undef, undef, undef, undef, undef, undef, undef, undef, undef, undef, undef, undef, undef, undef, undef, undef, undef, undef, undef, undef, undef, undef, undef, undef, undef, undef, undef, undef, undef, undef, undef, undef, undef, undef, undef, undef, undef, undef, undef, undef, undef, undef, undef, undef, undef, undef, undef, undef, undef, undef, undef, undef, undef, undef, undef, undef, undef, undef, undef, undef, undef, undef, undef, undef, undef, undef, undef, undef, undef, undef, undef, undef, undef, undef, undef, undef, undef, undef, undef, undef, undef, undef, undef, undef, undef, undef, undef, undef, undef, undef, undef, undef] rfl ?_
  have GG := Gro.refl w
  have kmp := HM.box
  refine wp_seq ?_
  refine wp_region_lit ?_
  refine s_val 4 rfl rfl (.int .i64 0) (rfl) ?_
  refine nr ?_; intro U h; simp only [z0, z1] at h; subst h
  refine wpList_nil ?_
  refine then_n ?_
  refine wp_seq ?_
  refine wp_seq ?_
  refine wp_region_lit ?_
  refine s_val 18 rfl rfl (.pointer (some ⟨mp, 0, none⟩)) (rfl) ?_
  refine nr ?_; intro U h; simp only [z0, z1] at h; subst h
  refine s_val 19 rfl rfl (.pointer (some ⟨mp, 0, none⟩)) (run_nc _ rfl _ rfl) ?_
  refine nr ?_; intro U h; simp only [z0, z1] at h; subst h
  refine s_val 20 rfl rfl (.pointer (some ⟨mp, 4, none⟩)) (run_fld 79 _ 4 rfl _ _ rfl _ (by kernel_rfl)) ?_
  refine nr ?_; intro U h; simp only [z0, z1] at h; subst h
  refine s_val 21 rfl rfl (.bool false) (run_ldc 4 _ rfl mp 4 rfl 79 _ kmp (na4 _) _ rfl) ?_
  refine nr ?_; intro U h; simp only [z0, z1] at h; subst h
  refine wpList_nil ?_
  refine then_n ?_
  refine wp_cond_false rfl ?_
  refine wp_skip ?_
  refine then_n ?_
  refine wp_seq ?_
  refine wp_seq ?_
  refine wp_region_lit ?_
  refine s_val 22 rfl rfl (.slice ao l.length cap) (rfl) ?_
  refine nr ?_; intro U h; simp only [z0, z1] at h; subst h
  refine s_val 23 rfl rfl (.int .i64 ((l.length : Nat) : Int)) (run_len Try.underlying30 _ rfl _ _ _ rfl _) ?_
  refine nr ?_; intro U h; simp only [z0, z1] at h; subst h
  refine s_val 24 rfl rfl (.bool true) (run_gtrT 3 _ _ _ rfl ((l.length : Nat) : Int) 1024 rfl rfl true (by first | exact decide_eq_true (by omega) | exact decide_eq_false (by omega)) _) ?_
  refine nr ?_; intro U h; simp only [z0, z1] at h; subst h
  refine wpList_nil ?_
  refine then_n ?_
  refine wp_cond_true rfl ?_
  refine wp_seq ?_
  refine wp_region_lit ?_
  refine s_val 4 rfl rfl (.int .i64 4) (rfl) ?_
  refine nr ?_; intro U h; simp only [z0, z1] at h; subst h
  refine wpList_nil ?_
  refine then_n ?_
  refine wp_ret ?_
  refine then_r ?_
  refine bodyPost_ret (results_tmp Try.results11 _ _ _) rfl ?_
  exact ⟨rfl, GG⟩
set_option maxRecDepth 100000 in
set_option maxHeartbeats 4000000 in
theorem rappend_full (w : World) (mp rp : Nat) (h : Hd) (HM : MK w mp rp h false) (B : Nat) (ro : Option Addr) (rc n : Nat) (L : List Nat) (pw dn : Int) (HR : QK w rp B ro rc n L pw dn) (hu : h.u + 2 ≤ n) (ao : Option Addr) (cap : Nat) (l : List Nat) (hl : l.length ≤ 1024) (hf : n - 2 - h.u < secN l.length) : Calls Try.prog 11 #[.pointer (some ⟨mp, 0, none⟩), .slice ao l.length cap] w fun e w' => e = .returned (.int .i64 5) ∧ Gro w w' := by
  refine s_enter Try.func11 rfl Try.ntmps11 [.pointer (some ⟨mp, 0, none⟩), .slice ao l.length cap] [.pointer (some ⟨mp, 0, none⟩), .slice ao l.length cap, undef, undef, undef, undef, undef, undef, undef, undef, undef, undef, undef, undef, undef, undef, undef, undef, undef, undef, undef, undef, undef, undef, undef, undef, undef, undef, undef, undef, undef, undef, undef, undef, undef, undef, undef, undef, undef, undef, undef, undef, undef, undef, undef, undef, undef, undef, undef, undef, undef, undef, undef, undef, undef, undef, undef, undef, undef, undef, undef, undef, undef, undef, undef, undef, undef, undef, undef, undef, undef, undef, undef, undef, undef, undef, undef, undef, undef, undef, undef, undef, undef, undef, undef, undef, undef, undef, undef, undef, undef, undef, undef, undef, undef, undef, undef, undef, undef, undef, undef, undef, undef, undef, undef, undef, undef, undef, undef, undef, undef, undef, undef, undef, undef, undef, undef, undef, undef, undef, undef, undef, undef, undef, undef, undef, undef, undef, undef, undef, undef, undef, undef, undef, undef, undef, undef, undef, undef, undef, undef, undef, undef, undef, undef, undef, undef, undef, undef, undef, undef, undef, undef, undef, undef, undef, undef, undef, undef, undef, undef, undef, undef, undef, undef, undef, undef, undef, undef, undef, undef, undef] rfl ?_
  have GG := Gro.refl w
  have kmp := HM.box
  refine wp_seq ?_
  refine wp_region_lit ?_
  refine s_val 4 rfl rfl (.int .i64 0) (rfl) ?_
  refine nr ?_; intro U h; simp only [z0, z1] at h; subst h
  refine wpList_nil ?_
  refine then_n ?_
  refine wp_seq ?_
  refine wp_seq ?_
  refine wp_region_lit ?_
  refine s_val 18 rfl rfl (.pointer (some ⟨mp, 0, none⟩)) (rfl) ?_
  refine nr ?_; intro U h; simp only [z0, z1] at h; subst h
  refine s_val 19 rfl rfl (.pointer (some ⟨mp, 0, none⟩)) (run_nc _ rfl _ rfl) ?_
  refine nr ?_; intro U h; simp only [z0, z1] at h; subst h
  refine s_val 20 rfl rfl (.pointer (some ⟨mp, 4, none⟩)) (run_fld 79 _ 4 rfl _ _ rfl _ (by kernel_rfl)) ?_
  refine nr ?_; intro U h; simp only [z0, z1] at h; subst h
  refine s_val 21 rfl rfl (.bool false) (run_ldc 4 _ rfl mp 4 rfl 79 _ kmp (na4 _) _ rfl) ?_
  refine nr ?_; intro U h; simp only [z0, z1] at h; subst h
  refine wpList_nil ?_
  refine then_n ?_
  refine wp_cond_false rfl ?_
  refine wp_skip ?_
  refine then_n ?_
  refine wp_seq ?_
  refine wp_seq ?_
  refine wp_region_lit ?_
  refine s_val 22 rfl rfl (.slice ao l.length cap) (rfl) ?_
  refine nr ?_; intro U h; simp only [z0, z1] at h; subst h
  refine s_val 23 rfl rfl (.int .i64 ((l.length : Nat) : Int)) (run_len Try.underlying30 _ rfl _ _ _ rfl _) ?_
  refine nr ?_; intro U h; simp only [z0, z1] at h; subst h
  refine s_val 24 rfl rfl (.bool false) (run_gtrT 3 _ _ _ rfl ((l.length : Nat) : Int) 1024 rfl rfl false (by first | exact decide_eq_true (by omega) | exact decide_eq_false (by omega)) _) ?_
  refine nr ?_; intro U h; simp only [z0, z1] at h; subst h
  refine wpList_nil ?_
  refine then_n ?_
  refine wp_cond_false rfl ?_
  refine wp_skip ?_
  refine then_n ?_
  refine wp_seq ?_
  refine wp_region_lit ?_
  refine s_val 25 rfl rfl (.slice ao l.length cap) (rfl) ?_
  refine nr ?_; intro U h; simp only [z0, z1] at h; subst h
  refine s_callv 26 rfl rfl _ 33 Try.call33 rfl rfl _ rfl [.slice ao l.length cap] rfl (rsectors_any _ ao cap l (by omega)) ?_
  intro w1 G
  replace kmp := G.has kmp
  replace HR := HR.gro G
  replace GG := GG.trans G
  clear G
  refine nr ?_; intro U h; simp only [z0, z1] at h; subst h
  refine s_val 5 rfl rfl (.int .i64 ((secN l.length : Nat) : Int)) (rfl) ?_
  refine nr ?_; intro U h; simp only [z0, z1] at h; subst h
  refine wpList_nil ?_
  refine then_n ?_
  refine wp_seq ?_
  refine wp_seq ?_
  refine wp_region_lit ?_
  refine s_val 27 rfl rfl (.int .i64 ((secN l.length : Nat) : Int)) (rfl) ?_
  refine nr ?_; intro U h; simp only [z0, z1] at h; subst h
  refine s_val 28 rfl rfl (.pointer (some ⟨mp, 0, none⟩)) (rfl) ?_
  refine nr ?_; intro U h; simp only [z0, z1] at h; subst h
  refine s_callv 29 rfl rfl _ 34 Try.call34 rfl rfl _ rfl [.pointer (some ⟨mp, 0, none⟩)] rfl (rroom_any _ mp rp h false ⟨kmp⟩ B ro rc n L pw dn HR hu) ?_
  intro w2 G
  replace kmp := G.has kmp
  replace HR := HR.gro G
  replace GG := GG.trans G
  clear G
  refine nr ?_; intro U h; simp only [z0, z1] at h; subst h
  refine s_val 30 rfl rfl (.bool true) (run_gtrT 3 _ _ _ rfl ((secN l.length : Nat) : Int) ((n - 2 - h.u : Nat) : Int) rfl rfl true (by first | exact decide_eq_true (by omega) | exact decide_eq_false (by omega)) _) ?_
  refine nr ?_; intro U h; simp only [z0, z1] at h; subst h
  refine wpList_nil ?_
  refine then_n ?_
  refine wp_cond_true rfl ?_
  refine wp_seq ?_
  refine wp_region_lit ?_
  refine s_val 4 rfl rfl (.int .i64 5) (rfl) ?_
  refine nr ?_; intro U h; simp only [z0, z1] at h; subst h
  refine wpList_nil ?_
  refine then_n ?_
  refine wp_ret ?_
  refine then_r ?_
  refine bodyPost_ret (results_tmp Try.results11 _ _ _) rfl ?_
  exact ⟨rfl, GG⟩
theorem cut_some {ao : Option Addr} {cap i : Nat} {ad : Addr} (h : cutA ao cap i = some ad) : ∃ a, ao = some a ∧ a.block = ad.block := by
  unfold cutA at h
  split at h
  · exact ⟨ad, h, rfl⟩
  · cases ao with
    | none => cases h
    | some a =>
      refine ⟨a, rfl, ?_⟩
      cases h
      rw [add_block]
theorem wl1 (x : Nat) : (wr (zs 24) 0 (beL 8 x)).length = 24 := by
  rw [wr_len (by rw [beL_len, zs_len]; decide), zs_len]
theorem wl2 (x y : Nat) : (wr (wr (zs 24) 0 (beL 8 x)) 8 (beL 8 y)).length = 24 := by
  rw [wr_len (by rw [beL_len, wl1]; decide), wl1]
theorem QK.stq {w w' : World} {p B : Nat} {ao : Option Addr} {cap n : Nat} {L : List Nat} {pw dn : Int} {g : Nat} {x : Obj} (h : QK w p B ao cap n L pw dn) (St : Stored w w' g x) (h1 : g ≠ p) (h2 : ∀ ad, ao = some ad → ad.block ≠ g) : QK w' p B ao cap n L pw dn := ⟨St.has (Ne.symm h1) h.box, h.row.apart St h2, h.len, h.le⟩
set_option maxRecDepth 100000 in
set_option maxHeartbeats 4000000 in
theorem rappend_go (w : World) (mp rp : Nat) (h : Hd) (HM : MK w mp rp h false) (B : Nat) (ro : Option Addr) (rc n : Nat) (L : List Nat) (pw dn : Int) (HR : QK w rp B ro rc n L pw dn) (hu : h.u + 2 ≤ n) (ao : Option Addr) (cap : Nat) (l : List Nat) (HB : BS (rp :: mp :: blk ro) w ao cap l) (hl : l.length ≤ 1024) (hf : h.u + secN l.length + 2 ≤ n) (hP : okP pw) (hg : h.g + 1 < lim) (hc : h.c + 1 < 9223372036854775808) (hd : 0 ≤ dn) (hd2 : dn < 9223372036854760000) : Calls Try.prog 11 #[.pointer (some ⟨mp, 0, none⟩), .slice ao l.length cap] w (RApP w mp rp B ro rc n L pw dn h l) := by
  refine s_enter Try.func11 rfl Try.ntmps11 [.pointer (some ⟨mp, 0, none⟩), .slice ao l.length cap] [.pointer (some ⟨mp, 0, none⟩), .slice ao l.length cap, undef, undef, undef, undef, undef, undef, undef, undef, undef, undef, undef, undef, undef, undef, undef, undef, undef, undef, undef, undef, undef, undef, undef, undef, undef, undef, undef, undef, undef, undef, undef, undef, undef, undef, undef, undef, undef, undef, undef, undef, undef, undef, undef, undef, undef, undef, undef, undef, undef, undef, undef, undef, undef, undef, undef, undef, undef, undef, undef, undef, undef, undef, undef, undef, undef, undef, undef, undef, undef, undef, undef, undef, undef, undef, undef, undef, undef, undef, undef, undef, undef, undef, undef, undef, undef, undef, undef, undef, undef, undef, undef, undef, undef, undef, undef, undef, undef, undef, undef, undef, undef, undef, undef, undef, undef, undef, undef, undef, undef, undef, undef, undef, undef, undef, undef, undef, undef, undef, undef, undef, undef, undef, undef, undef, undef, undef, undef, undef, undef, undef, undef, undef, undef, undef, undef, undef, undef, undef, undef, undef, undef, undef, undef, undef, undef, undef, undef, undef, undef, undef, undef, undef, undef, undef, undef, undef, undef, undef, undef, undef, undef, undef, undef, undef, undef, undef, undef, undef, undef, undef] rfl ?_
  have GG := GroS.refl (rp :: mp :: blk ro) w
  have kmp := HM.box
  have hn4 := HR.le
  have hlim : lim = 18446744073709551616 := rfl
  have hsn : secN l.length ≤ 17 := by unfold secN; omega
  have hs2 : l.length + 2 ≤ secN l.length * 64 ∧ secN l.length * 64 < l.length + 66 := by unfold secN; omega
  have hlrp := lt_of_heap HR.box
  have hlmp := lt_of_heap kmp
  have hLn := HR.len
  have hlro : ∀ ad, ro = some ad → ad.block < w.heap.size := fun ad ha => (HR.row.ge ad ha).2
  have hrm : rp ≠ mp := ne_type HR.box kmp (by decide)
  have hrn : ∀ ad, ro = some ad → ad.block ≠ mp := fun ad ha => by obtain ⟨cur, hc⟩ := HR.row.blk5 ha; exact ne_type hc kmp (by decide)
  have hsub : ∀ x ∈ rp :: blk ro, x ∈ rp :: mp :: blk ro := fun x hx => by rcases List.mem_cons.1 hx with e | e; exact List.mem_cons.2 (.inl e); exact List.mem_cons.2 (.inr (List.mem_cons.2 (.inr e)))
  have hmpS : mp ∉ rp :: blk ro := fun hm => by rcases List.mem_cons.1 hm with e | e; exact hrm e.symm; obtain ⟨ad, ha, hb⟩ := mem_blk.1 e; exact hrn ad ha hb
  refine wp_seq ?_
  refine wp_region_lit ?_
  refine s_val 4 rfl rfl (.int .i64 0) (rfl) ?_
  refine nr ?_; intro U h; simp only [z0, z1] at h; subst h
  refine wpList_nil ?_
  refine then_n ?_
  refine wp_seq ?_
  refine wp_seq ?_
  refine wp_region_lit ?_
  refine s_val 18 rfl rfl (.pointer (some ⟨mp, 0, none⟩)) (rfl) ?_
  refine nr ?_; intro U h; simp only [z0, z1] at h; subst h
  refine s_val 19 rfl rfl (.pointer (some ⟨mp, 0, none⟩)) (run_nc _ rfl _ rfl) ?_
  refine nr ?_; intro U h; simp only [z0, z1] at h; subst h
  refine s_val 20 rfl rfl (.pointer (some ⟨mp, 4, none⟩)) (run_fld 79 _ 4 rfl _ _ rfl _ (by kernel_rfl)) ?_
  refine nr ?_; intro U h; simp only [z0, z1] at h; subst h
  refine s_val 21 rfl rfl (.bool false) (run_ldc 4 _ rfl mp 4 rfl 79 _ kmp (na4 _) _ rfl) ?_
  refine nr ?_; intro U h; simp only [z0, z1] at h; subst h
  refine wpList_nil ?_
  refine then_n ?_
  refine wp_cond_false rfl ?_
  refine wp_skip ?_
  refine then_n ?_
  refine wp_seq ?_
  refine wp_seq ?_
  refine wp_region_lit ?_
  refine s_val 22 rfl rfl (.slice ao l.length cap) (rfl) ?_
  refine nr ?_; intro U h; simp only [z0, z1] at h; subst h
  refine s_val 23 rfl rfl (.int .i64 ((l.length : Nat) : Int)) (run_len Try.underlying30 _ rfl _ _ _ rfl _) ?_
  refine nr ?_; intro U h; simp only [z0, z1] at h; subst h
  refine s_val 24 rfl rfl (.bool false) (run_gtrT 3 _ _ _ rfl ((l.length : Nat) : Int) 1024 rfl rfl false (by first | exact decide_eq_true (by omega) | exact decide_eq_false (by omega)) _) ?_
  refine nr ?_; intro U h; simp only [z0, z1] at h; subst h
  refine wpList_nil ?_
  refine then_n ?_
  refine wp_cond_false rfl ?_
  refine wp_skip ?_
  refine then_n ?_
  refine wp_seq ?_
  refine wp_region_lit ?_
  refine s_val 25 rfl rfl (.slice ao l.length cap) (rfl) ?_
  refine nr ?_; intro U h; simp only [z0, z1] at h; subst h
  refine s_callv 26 rfl rfl _ 33 Try.call33 rfl rfl _ rfl [.slice ao l.length cap] rfl (rsectors_any _ ao cap l (by omega)) ?_
  intro w1 G
  replace kmp := G.has kmp
  replace HR := HR.gro G
  replace HB := HB.gro G
  replace GG := GG.tg G
  clear G
  refine nr ?_; intro U h; simp only [z0, z1] at h; subst h
  refine s_val 5 rfl rfl (.int .i64 ((secN l.length : Nat) : Int)) (rfl) ?_
  refine nr ?_; intro U h; simp only [z0, z1] at h; subst h
  refine wpList_nil ?_
  refine then_n ?_
  refine wp_seq ?_
  refine wp_seq ?_
  refine wp_region_lit ?_
  refine s_val 27 rfl rfl (.int .i64 ((secN l.length : Nat) : Int)) (rfl) ?_
  refine nr ?_; intro U h; simp only [z0, z1] at h; subst h
  refine s_val 28 rfl rfl (.pointer (some ⟨mp, 0, none⟩)) (rfl) ?_
  refine nr ?_; intro U h; simp only [z0, z1] at h; subst h
  refine s_callv 29 rfl rfl _ 34 Try.call34 rfl rfl _ rfl [.pointer (some ⟨mp, 0, none⟩)] rfl (rroom_any _ mp rp h false ⟨kmp⟩ B ro rc n L pw dn HR hu) ?_
  intro w2 G
  replace kmp := G.has kmp
  replace HR := HR.gro G
  replace HB := HB.gro G
  replace GG := GG.tg G
  clear G
  refine nr ?_; intro U h; simp only [z0, z1] at h; subst h
  refine s_val 30 rfl rfl (.bool false) (run_gtrT 3 _ _ _ rfl ((secN l.length : Nat) : Int) ((n - 2 - h.u : Nat) : Int) rfl rfl false (by first | exact decide_eq_true (by omega) | exact decide_eq_false (by omega)) _) ?_
  refine nr ?_; intro U h; simp only [z0, z1] at h; subst h
  refine wpList_nil ?_
  refine then_n ?_
  refine wp_cond_false rfl ?_
  refine wp_skip ?_
  refine then_n ?_
  refine wp_seq ?_
  refine wp_region_lit ?_
  refine s_val 31 rfl rfl (.slice ao l.length cap) (rfl) ?_
  refine nr ?_; intro U h; simp only [z0, z1] at h; subst h
  refine s_val 32 rfl rfl (.int .i64 ((l.length : Nat) : Int)) (run_len Try.underlying30 _ rfl _ _ _ rfl _) ?_
  refine nr ?_; intro U h; simp only [z0, z1] at h; subst h
  refine s_val 33 rfl rfl (.int .i64 ((l.length / 256 : Nat) : Int)) (run_quo64 _ _ _ rfl ((l.length : Nat) : Int) 256 _ rfl rfl (by decide) (tdivN _ 256) (by omega) (by omega) _) ?_
  refine nr ?_; intro U h; simp only [z0, z1] at h; subst h
  refine s_val 34 rfl rfl (.int .u8 ((l.length / 256 : Nat) : Int)) (conv35 _ rfl (l.length / 256) (by omega) rfl _) ?_
  refine nr ?_; intro U h; simp only [z0, z1] at h; subst h
  refine s_val 35 rfl rfl (.slice ao l.length cap) (rfl) ?_
  refine nr ?_; intro U h; simp only [z0, z1] at h; subst h
  refine s_val 36 rfl rfl (.int .i64 ((l.length : Nat) : Int)) (run_len Try.underlying30 _ rfl _ _ _ rfl _) ?_
  refine nr ?_; intro U h; simp only [z0, z1] at h; subst h
  refine s_val 37 rfl rfl (.int .i64 ((l.length % 256 : Nat) : Int)) (run_rem64 _ _ _ rfl ((l.length : Nat) : Int) 256 _ rfl rfl (by decide) (tmodN _ 256) (by omega) (by omega) _) ?_
  refine nr ?_; intro U h; simp only [z0, z1] at h; subst h
  refine s_val 38 rfl rfl (.int .u8 ((l.length % 256 : Nat) : Int)) (conv35 _ rfl (l.length % 256) (by omega) rfl _) ?_
  refine nr ?_; intro U h; simp only [z0, z1] at h; subst h
  refine s_bsl 39 rfl rfl 30 2 _ rfl [(0, .int .u8 ((l.length / 256 : Nat) : Int)), (1, .int .u8 ((l.length % 256 : Nat) : Int))] rfl #[.int .u8 ((l.length / 256 : Nat) : Int), .int .u8 ((l.length % 256 : Nat) : Int)] 5 (by kernel_rfl) ?_
  intro w3 gb G1 egb kgb
  refine nr ?_; intro U h; simp only [z0, z1] at h; subst h
  refine s_val 40 rfl rfl (.slice ao l.length cap) (rfl) ?_
  refine nr ?_; intro U h; simp only [z0, z1] at h; subst h
  have HO1 : OB _ 5 .u8 gb (some ⟨gb, 0, none⟩) 2 [l.length / 256, l.length % 256] := OB.made kgb (Nat.le_refl _) (Nat.le_refl _) (by decide) rfl rfl (fun x hx => by rw [max_u8]; simp at hx; omega)
  refine s_app bT 41 rfl rfl _ _ rfl rfl HO1 (l' := l) rfl (HB.nc.gro G1) (by simp only [List.length_cons, List.length_nil]; omega) (by decide) (Nat.le_of_lt (lt_of_heap kgb)) ?_
  intro ao4 cap4 w4 HO2 BB
  have G := below_gro G1 BB (Nat.le_of_eq egb)
  have bgb := size_basS GG egb
  have HO : OB _ 5 .u8 w.heap.size ao4 cap4 (rawW l) := HO2.mono bgb
  clear HO1 HO2 BB G1 egb kgb
  replace kmp := G.has kmp
  replace HR := HR.gro G
  replace HB := HB.gro G
  replace GG := GG.tg G
  clear G
  refine nr ?_; intro U h; simp only [z0, z1] at h; subst h
  refine s_val 6 rfl rfl (.slice ao4 ((rawW l).length) cap4) (rfl) ?_
  refine nr ?_; intro U h; simp only [z0, z1] at h; subst h
  refine wpList_nil ?_
  refine then_n ?_
  refine wp_seq ?_
  refine wp_seq ?_
  refine wp_region_lit ?_
  refine s_val 7 rfl rfl (.int .i64 0) (rfl) ?_
  refine nr ?_; intro U h; simp only [z0, z1] at h; subst h
  refine wpList_nil ?_
  refine then_n ?_
  refine wp_block ?_
  refine wp_loopN (fun mz az wv => ∃ (j : Nat) (pj : Int) (us1 : Nat → Value), mz = secN l.length - j ∧ az = ⟨[.pointer (some ⟨mp, 0, none⟩), .slice ao l.length cap, undef, undef, us1 0, .int .i64 ((secN l.length : Nat) : Int), .slice ao4 ((rawW l).length) cap4, .int .i64 ((j : Nat) : Int), us1 1, us1 2, undef, undef, undef, undef, undef, undef, undef, undef, .pointer (some ⟨mp, 0, none⟩), .pointer (some ⟨mp, 0, none⟩), .pointer (some ⟨mp, 4, none⟩), .bool false, .slice ao l.length cap, .int .i64 ((l.length : Nat) : Int), .bool false, .slice ao l.length cap, .int .i64 ((secN l.length : Nat) : Int), .int .i64 ((secN l.length : Nat) : Int), .pointer (some ⟨mp, 0, none⟩), .int .i64 ((n - 2 - h.u : Nat) : Int), .bool false, .slice ao l.length cap, .int .i64 ((l.length : Nat) : Int), .int .i64 ((l.length / 256 : Nat) : Int), .int .u8 ((l.length / 256 : Nat) : Int), .slice ao l.length cap, .int .i64 ((l.length : Nat) : Int), .int .i64 ((l.length % 256 : Nat) : Int), .int .u8 ((l.length % 256 : Nat) : Int), .slice (some ⟨gb, 0, none⟩) 2 2, .slice ao l.length cap, .slice ao4 ((rawW l).length) cap4, us1 3, us1 4, us1 5, us1 6, us1 7, us1 8, us1 9, us1 10, us1 11, us1 12, us1 13, us1 14, us1 15, us1 16, us1 17, us1 18, us1 19, us1 20, us1 21, us1 22, us1 23, us1 24, us1 25, us1 26, us1 27, us1 28, us1 29, us1 30, us1 31, us1 32, us1 33, us1 34, us1 35, undef, undef, undef, undef, undef, undef, undef, undef, undef, undef, undef, undef, undef, undef, undef, undef, undef, undef, undef, undef, undef, undef, undef, undef, undef, undef, undef, undef, undef, undef, undef, undef, undef, undef, undef, undef, undef, undef, undef, undef, undef, undef, undef, undef, undef, undef, undef, undef, undef, undef, undef, undef, undef, undef, undef, undef, undef, undef, undef, undef, undef, undef, undef, undef, undef, undef, undef, undef, undef, undef, undef, undef, undef, undef, undef, undef, undef, undef, undef, undef, undef, undef, undef, undef, undef, undef, undef, undef, undef, undef, undef, undef, undef, undef, undef, undef, undef].toArray, []⟩ ∧ j ≤ secN l.length ∧ PJ pw j pj ∧ GroS (rp :: mp :: blk ro) w wv ∧ wv.heap[mp]? = some (.cells (c79 (some ⟨rp, 0, none⟩) ((h.g : Nat) : Int) ((h.u : Nat) : Int) ((h.c : Nat) : Int) false) 79 (0, 0)) ∧ QK wv rp B ro rc n (wr L ((2 + h.u) * 64) ((recW l).take (j * 64))) pj (dn + j) ∧ OB wv 5 .u8 w.heap.size ao4 cap4 (rawW l)) ?_ _ ⟨0, pw, (fun kz => ([.int .i64 0, undef, undef, undef, undef, undef, undef, undef, undef, undef, undef, undef, undef, undef, undef, undef, undef, undef, undef, undef, undef, undef, undef, undef, undef, undef, undef, undef, undef, undef, undef, undef, undef, undef, undef, undef] : List Value).getD kz undef), rfl, rfl, Nat.zero_le _, PJ.zero hP, GG, kmp, (by simpa [wr_none] using HR), HO⟩
  clear kmp GG HR HO
  rintro mz az wv ⟨j, pj, us1, rfl, rfl, hj, hpj, GG, kmp, HR, HO⟩
  refine wp_seq ?_
  refine wp_seq ?_
  refine wp_region_lit ?_
  refine s_val 42 rfl rfl (.int .i64 ((j : Nat) : Int)) (rfl) ?_
  refine nr ?_; intro U h; simp only [z0, z1] at h; subst h
  refine s_val 43 rfl rfl (.int .i64 ((secN l.length : Nat) : Int)) (rfl) ?_
  refine nr ?_; intro U h; simp only [z0, z1] at h; subst h
  obtain ⟨p1, hp1⟩ : ∃ p, decide (((j : Nat) : Int) < ((secN l.length : Nat) : Int)) = p := ⟨_, rfl⟩
  refine s_val 44 rfl rfl (.bool p1) (run_lssT 3 _ _ _ rfl ((j : Nat) : Int) ((secN l.length : Nat) : Int) rfl rfl p1 hp1 _) ?_
  refine nr ?_; intro U h; simp only [z0, z1] at h; subst h
  cases p1
  · have hjn : j = secN l.length := by have := of_decide_eq_false hp1; omega
    rw [hjn, take_rec] at HR
    refine wpList_nil ?_
    refine then_n ?_
    refine wp_cond_false rfl ?_
    refine wp_exit ?_
    refine then_x ?_
    refine then_x ?_
    refine blk_x ?_
    refine then_n ?_
    refine wp_seq ?_
    refine wp_region_lit ?_
    refine s_make bT 75 rfl rfl _ _ rfl 24 rfl rfl (by omega) (by simp only [maxLen]; omega) ?_
    intro w5 gh G egh kgh
    have bgh := size_basS GG egh
    have dmpgh := lt_new kmp egh
    replace kmp := G.has kmp
    replace HR := HR.gro G
    replace HO := HO.gro G
    replace GG := GG.tg G
    clear G egh
    refine nr ?_; intro U h; simp only [z0, z1] at h; subst h
    refine s_val 10 rfl rfl (.slice (some ⟨gh, 0, none⟩) 24 24) (rfl) ?_
    refine nr ?_; intro U h; simp only [z0, z1] at h; subst h
    refine wpList_nil ?_
    refine then_n ?_
    refine wp_seq ?_
    refine wp_seq ?_
    refine wp_region_exA (A := ?Ax1) 6 [(0, 76), (1, 77), (2, 78), (3, 79), (4, 80), (5, 11)] [.val (.pointer (some ⟨mp, 0, none⟩)), .val (.pointer (some ⟨mp, 0, none⟩)), .val (.pointer (some ⟨mp, 1, none⟩)), .val (.int .u64 ((h.g : Nat) : Int)), .val (.int .u64 ((h.g + 1 : Nat) : Int)), .val (.int .i64 0)] follows (by kernel_rfl) rfl ?hAx1 (opsA_cons ?o0x1 (opsA_cons ?o1x1 (opsA_cons ?o2x1 (opsA_cons ?o3x1 (opsA_cons ?o4x1 (opsA_cons ?o5x1 opsA_nil)))))) ?restx1
    case hAx1 =>
      intro ptrs
      simp only [full, foldSlots, filledE, postE, List.foldl_cons, List.foldl_nil, List.getD_cons_zero, List.getD_cons_succ, fill_val, List.set_cons_zero, List.set_cons_succ]
      exact rfl
    case o0x1 => exact fun _ _ _ _ => opE_move (v := .pointer (some ⟨mp, 0, none⟩)) _ rfl rfl rfl
    case o1x1 => exact fun _ _ hw _ => opE_value (v := .pointer (some ⟨mp, 0, none⟩)) rfl (run_nc _ rfl _ rfl)
    case o2x1 => exact fun _ _ hw _ => opE_value (v := .pointer (some ⟨mp, 1, none⟩)) rfl (run_fld 79 _ 1 rfl _ _ rfl _ (by kernel_rfl))
    case o3x1 => exact fun _ _ hw _ => opE_value (v := .int .u64 ((h.g : Nat) : Int)) rfl (run_ldc 75 _ rfl mp 1 rfl 79 _ (hw.has kmp) (na75 _) _ rfl)
    case o4x1 => exact fun _ _ hw _ => opE_value (v := .int .u64 ((h.g + 1 : Nat) : Int)) rfl (run_addUe 75 75 _ _ rfl h.g 1 rfl rfl (by omega) _)
    case o5x1 => exact fun _ _ _ _ => opE_assign (v := .int .i64 0) _ rfl rfl rfl
    intro ptrs w6 GD hxE
    simp only [List.drop_succ_cons, List.drop_zero]
    replace kmp := GD.has kmp
    replace kgh := GD.has kgh
    replace HR := HR.gro ((Gro.refl _).drew.trans GD)
    replace HO := HO.gro ((Gro.refl _).drew.trans GD)
    replace GG := GG.drew.tg GD
    clear GD
    refine s_val 12 rfl rfl (.int .u64 ((h.g + 1 : Nat) : Int)) (rfl) ?_
    refine nr ?_; intro U h; simp only [z0, z1] at h; subst h
    refine wpList_nil ?_
    refine then_n ?_
    refine wp_block ?_
    obtain ⟨Lk, hLk⟩ : ∃ Lk, Lk = wr L ((2 + h.u) * 64) (recW l) := ⟨_, rfl⟩
    rw [← hLk] at HR
    obtain ⟨dnk, hdnk⟩ : ∃ d : Int, d = dn + (j : Int) := ⟨_, rfl⟩
    have hdk : dnk = dn + (secN l.length : Nat) := by rw [hdnk, hjn]
    rw [← hdk] at HR
    refine wp_loopN (fun mz az wv => ∃ (t0 : Nat) (v0 : Nat) (us2 : Nat → Value), mz = 8 - t0 ∧ az = ⟨[.pointer (some ⟨mp, 0, none⟩), .slice ao l.length cap, undef, undef, us1 0, .int .i64 ((secN l.length : Nat) : Int), .slice ao4 ((rawW l).length) cap4, .int .i64 ((j : Nat) : Int), us1 1, us1 2, .slice (some ⟨gh, 0, none⟩) 24 24, .int .i64 ((t0 : Nat) : Int), .int .u64 ((v0 : Nat) : Int), undef, undef, undef, undef, undef, .pointer (some ⟨mp, 0, none⟩), .pointer (some ⟨mp, 0, none⟩), .pointer (some ⟨mp, 4, none⟩), .bool false, .slice ao l.length cap, .int .i64 ((l.length : Nat) : Int), .bool false, .slice ao l.length cap, .int .i64 ((secN l.length : Nat) : Int), .int .i64 ((secN l.length : Nat) : Int), .pointer (some ⟨mp, 0, none⟩), .int .i64 ((n - 2 - h.u : Nat) : Int), .bool false, .slice ao l.length cap, .int .i64 ((l.length : Nat) : Int), .int .i64 ((l.length / 256 : Nat) : Int), .int .u8 ((l.length / 256 : Nat) : Int), .slice ao l.length cap, .int .i64 ((l.length : Nat) : Int), .int .i64 ((l.length % 256 : Nat) : Int), .int .u8 ((l.length % 256 : Nat) : Int), .slice (some ⟨gb, 0, none⟩) 2 2, .slice ao l.length cap, .slice ao4 ((rawW l).length) cap4, .int .i64 ((j : Nat) : Int), .int .i64 ((secN l.length : Nat) : Int), .bool false, us1 6, us1 7, us1 8, us1 9, us1 10, us1 11, us1 12, us1 13, us1 14, us1 15, us1 16, us1 17, us1 18, us1 19, us1 20, us1 21, us1 22, us1 23, us1 24, us1 25, us1 26, us1 27, us1 28, us1 29, us1 30, us1 31, us1 32, us1 33, us1 34, us1 35, .slice (some ⟨gh, 0, none⟩) 24 24, .pointer (some ⟨mp, 0, none⟩), .pointer (some ⟨mp, 0, none⟩), .pointer (some ⟨mp, 1, none⟩), .int .u64 ((h.g : Nat) : Int), .int .u64 ((h.g + 1 : Nat) : Int), us2 0, us2 1, us2 2, us2 3, us2 4, us2 5, us2 6, us2 7, us2 8, us2 9, us2 10, us2 11, us2 12, undef, undef, undef, undef, undef, undef, undef, undef, undef, undef, undef, undef, undef, undef, undef, undef, undef, undef, undef, undef, undef, undef, undef, undef, undef, undef, undef, undef, undef, undef, undef, undef, undef, undef, undef, undef, undef, undef, undef, undef, undef, undef, undef, undef, undef, undef, undef, undef, undef, undef, undef, undef, undef, undef, undef, undef, undef, undef, undef, undef, undef, undef, undef, undef, undef, undef, undef, undef, undef, undef, undef, undef, undef, undef, undef, undef, undef, undef].toArray, []⟩ ∧ t0 ≤ 8 ∧ v0 = (h.g + 1) / 256 ^ t0 ∧ GroS (rp :: mp :: blk ro) w wv ∧ wv.heap[mp]? = some (.cells (c79 (some ⟨rp, 0, none⟩) ((h.g : Nat) : Int) ((h.u : Nat) : Int) ((h.c : Nat) : Int) false) 79 (0, 0)) ∧ QK wv rp B ro rc n Lk pj dnk ∧ wv.heap[gh]? = some (.cells (bv (layB (zs 24) 0 (h.g + 1) t0)) 5 (0, 0))) ?_ _ ⟨0, (h.g + 1), (fun kz => ([undef, undef, undef, undef, undef, undef, undef, undef, undef, undef, undef, undef, undef] : List Value).getD kz undef), rfl, rfl, Nat.zero_le _, (by simp), GG, kmp, HR, (by rw [layB_0]; exact kgh)⟩
    clear kmp kgh GG HR
    rintro mz az wv ⟨t0, v0, us2, rfl, rfl, ht, hv, GG, kmp, HR, kgh⟩
    have hvl : v0 ≤ (h.g + 1) := by rw [hv]; exact Nat.div_le_self _ _
    refine wp_seq ?_
    refine wp_seq ?_
    refine wp_region_lit ?_
    refine s_val 81 rfl rfl (.int .i64 ((t0 : Nat) : Int)) (rfl) ?_
    refine nr ?_; intro U h; simp only [z0, z1] at h; subst h
    obtain ⟨p2, hp2⟩ : ∃ p, decide (((t0 : Nat) : Int) < 8) = p := ⟨_, rfl⟩
    refine s_val 82 rfl rfl (.bool p2) (run_lssT 3 _ _ _ rfl ((t0 : Nat) : Int) 8 rfl rfl p2 hp2 _) ?_
    refine nr ?_; intro U h; simp only [z0, z1] at h; subst h
    cases p2
    · have htn : t0 = 8 := by have := of_decide_eq_false hp2; omega
      rw [htn, layB_8 (by simp only [zs_len]; decide)] at kgh
      refine wpList_nil ?_
      refine then_n ?_
      refine wp_cond_false rfl ?_
      refine wp_exit ?_
      refine then_x ?_
      refine then_x ?_
      refine blk_x ?_
      refine then_n ?_
      refine wp_seq ?_
      refine wp_seq ?_
      refine wp_region_exA (A := ?Ax2) 7 [(0, 94), (1, 95), (2, 96), (3, 97), (4, 98), (5, 99), (6, 13)] [.val (.pointer (some ⟨mp, 0, none⟩)), .val (.pointer (some ⟨mp, 0, none⟩)), .val (.pointer (some ⟨mp, 2, none⟩)), .val (.int .i64 ((h.u : Nat) : Int)), .val (.int .i64 ((secN l.length : Nat) : Int)), .val (.int .i64 ((h.u + secN l.length : Nat) : Int)), .val (.int .i64 0)] follows (by kernel_rfl) rfl ?hAx2 (opsA_cons ?o0x2 (opsA_cons ?o1x2 (opsA_cons ?o2x2 (opsA_cons ?o3x2 (opsA_cons ?o4x2 (opsA_cons ?o5x2 (opsA_cons ?o6x2 opsA_nil))))))) ?restx2
      case hAx2 =>
        intro ptrs
        simp only [full, foldSlots, filledE, postE, List.foldl_cons, List.foldl_nil, List.getD_cons_zero, List.getD_cons_succ, fill_val, List.set_cons_zero, List.set_cons_succ]
        exact rfl
      case o0x2 => exact fun _ _ _ _ => opE_move (v := .pointer (some ⟨mp, 0, none⟩)) _ rfl rfl rfl
      case o1x2 => exact fun _ _ hw _ => opE_value (v := .pointer (some ⟨mp, 0, none⟩)) rfl (run_nc _ rfl _ rfl)
      case o2x2 => exact fun _ _ hw _ => opE_value (v := .pointer (some ⟨mp, 2, none⟩)) rfl (run_fld 79 _ 2 rfl _ _ rfl _ (by kernel_rfl))
      case o3x2 => exact fun _ _ hw _ => opE_value (v := .int .i64 ((h.u : Nat) : Int)) rfl (run_ldc 3 _ rfl mp 2 rfl 79 _ (hw.has kmp) (na3 _) _ rfl)
      case o4x2 => exact fun _ _ _ _ => opE_move (v := .int .i64 ((secN l.length : Nat) : Int)) _ rfl rfl rfl
      case o5x2 => exact fun _ _ hw _ => opE_value (v := .int .i64 ((h.u + secN l.length : Nat) : Int)) rfl (run_add64 _ _ _ rfl ((h.u : Nat) : Int) ((secN l.length : Nat) : Int) _ rfl rfl (by omega) (by omega) (by omega) _)
      case o6x2 => exact fun _ _ _ _ => opE_assign (v := .int .i64 0) _ rfl rfl rfl
      intro ptrs w7 GD hxE
      simp only [List.drop_succ_cons, List.drop_zero]
      replace kmp := GD.has kmp
      replace kgh := GD.has kgh
      replace HR := HR.gro ((Gro.refl _).drew.trans GD)
      replace GG := GG.drew.tg GD
      clear GD
      refine s_val 14 rfl rfl (.int .i64 ((h.u + secN l.length : Nat) : Int)) (rfl) ?_
      refine nr ?_; intro U h; simp only [z0, z1] at h; subst h
      refine wpList_nil ?_
      refine then_n ?_
      refine wp_block ?_
      refine wp_loopN (fun mz az wv => ∃ (t1 : Nat) (v1 : Nat) (us3 : Nat → Value), mz = 8 - t1 ∧ az = ⟨[.pointer (some ⟨mp, 0, none⟩), .slice ao l.length cap, undef, undef, us1 0, .int .i64 ((secN l.length : Nat) : Int), .slice ao4 ((rawW l).length) cap4, .int .i64 ((j : Nat) : Int), us1 1, us1 2, .slice (some ⟨gh, 0, none⟩) 24 24, .int .i64 ((t0 : Nat) : Int), .int .u64 ((v0 : Nat) : Int), .int .i64 ((t1 : Nat) : Int), .int .i64 ((v1 : Nat) : Int), undef, undef, undef, .pointer (some ⟨mp, 0, none⟩), .pointer (some ⟨mp, 0, none⟩), .pointer (some ⟨mp, 4, none⟩), .bool false, .slice ao l.length cap, .int .i64 ((l.length : Nat) : Int), .bool false, .slice ao l.length cap, .int .i64 ((secN l.length : Nat) : Int), .int .i64 ((secN l.length : Nat) : Int), .pointer (some ⟨mp, 0, none⟩), .int .i64 ((n - 2 - h.u : Nat) : Int), .bool false, .slice ao l.length cap, .int .i64 ((l.length : Nat) : Int), .int .i64 ((l.length / 256 : Nat) : Int), .int .u8 ((l.length / 256 : Nat) : Int), .slice ao l.length cap, .int .i64 ((l.length : Nat) : Int), .int .i64 ((l.length % 256 : Nat) : Int), .int .u8 ((l.length % 256 : Nat) : Int), .slice (some ⟨gb, 0, none⟩) 2 2, .slice ao l.length cap, .slice ao4 ((rawW l).length) cap4, .int .i64 ((j : Nat) : Int), .int .i64 ((secN l.length : Nat) : Int), .bool false, us1 6, us1 7, us1 8, us1 9, us1 10, us1 11, us1 12, us1 13, us1 14, us1 15, us1 16, us1 17, us1 18, us1 19, us1 20, us1 21, us1 22, us1 23, us1 24, us1 25, us1 26, us1 27, us1 28, us1 29, us1 30, us1 31, us1 32, us1 33, us1 34, us1 35, .slice (some ⟨gh, 0, none⟩) 24 24, .pointer (some ⟨mp, 0, none⟩), .pointer (some ⟨mp, 0, none⟩), .pointer (some ⟨mp, 1, none⟩), .int .u64 ((h.g : Nat) : Int), .int .u64 ((h.g + 1 : Nat) : Int), .int .i64 ((t0 : Nat) : Int), .bool false, us2 2, us2 3, us2 4, us2 5, us2 6, us2 7, us2 8, us2 9, us2 10, us2 11, us2 12, .pointer (some ⟨mp, 0, none⟩), .pointer (some ⟨mp, 0, none⟩), .pointer (some ⟨mp, 2, none⟩), .int .i64 ((h.u : Nat) : Int), .int .i64 ((secN l.length : Nat) : Int), .int .i64 ((h.u + secN l.length : Nat) : Int), us3 0, us3 1, us3 2, us3 3, us3 4, us3 5, us3 6, us3 7, us3 8, us3 9, us3 10, us3 11, us3 12, undef, undef, undef, undef, undef, undef, undef, undef, undef, undef, undef, undef, undef, undef, undef, undef, undef, undef, undef, undef, undef, undef, undef, undef, undef, undef, undef, undef, undef, undef, undef, undef, undef, undef, undef, undef, undef, undef, undef, undef, undef, undef, undef, undef, undef, undef, undef, undef, undef, undef, undef, undef, undef, undef, undef, undef, undef, undef, undef].toArray, []⟩ ∧ t1 ≤ 8 ∧ v1 = (h.u + secN l.length) / 256 ^ t1 ∧ GroS (rp :: mp :: blk ro) w wv ∧ wv.heap[mp]? = some (.cells (c79 (some ⟨rp, 0, none⟩) ((h.g : Nat) : Int) ((h.u : Nat) : Int) ((h.c : Nat) : Int) false) 79 (0, 0)) ∧ QK wv rp B ro rc n Lk pj dnk ∧ wv.heap[gh]? = some (.cells (bv (layB (wr (zs 24) 0 (beL 8 (h.g + 1))) 8 (h.u + secN l.length) t1)) 5 (0, 0))) ?_ _ ⟨0, (h.u + secN l.length), (fun kz => ([undef, undef, undef, undef, undef, undef, undef, undef, undef, undef, undef, undef, undef] : List Value).getD kz undef), rfl, rfl, Nat.zero_le _, (by simp), GG, kmp, HR, (by rw [layB_0]; exact kgh)⟩
      clear kmp kgh GG HR
      rintro mz az wv ⟨t1, v1, us3, rfl, rfl, ht, hv, GG, kmp, HR, kgh⟩
      have hvl : v1 ≤ (h.u + secN l.length) := by rw [hv]; exact Nat.div_le_self _ _
      refine wp_seq ?_
      refine wp_seq ?_
      refine wp_region_lit ?_
      refine s_val 100 rfl rfl (.int .i64 ((t1 : Nat) : Int)) (rfl) ?_
      refine nr ?_; intro U h; simp only [z0, z1] at h; subst h
      obtain ⟨p3, hp3⟩ : ∃ p, decide (((t1 : Nat) : Int) < 8) = p := ⟨_, rfl⟩
      refine s_val 101 rfl rfl (.bool p3) (run_lssT 3 _ _ _ rfl ((t1 : Nat) : Int) 8 rfl rfl p3 hp3 _) ?_
      refine nr ?_; intro U h; simp only [z0, z1] at h; subst h
      cases p3
      · have htn : t1 = 8 := by have := of_decide_eq_false hp3; omega
        rw [htn, layB_8 (by simp only [wl1]; decide)] at kgh
        refine wpList_nil ?_
        refine then_n ?_
        refine wp_cond_false rfl ?_
        refine wp_exit ?_
        refine then_x ?_
        refine then_x ?_
        refine blk_x ?_
        refine then_n ?_
        refine wp_seq ?_
        refine wp_seq ?_
        refine wp_region_exA (A := ?Ax3) 6 [(0, 113), (1, 114), (2, 115), (3, 116), (4, 117), (5, 15)] [.val (.pointer (some ⟨mp, 0, none⟩)), .val (.pointer (some ⟨mp, 0, none⟩)), .val (.pointer (some ⟨mp, 3, none⟩)), .val (.int .i64 ((h.c : Nat) : Int)), .val (.int .i64 ((h.c + 1 : Nat) : Int)), .val (.int .i64 0)] follows (by kernel_rfl) rfl ?hAx3 (opsA_cons ?o0x3 (opsA_cons ?o1x3 (opsA_cons ?o2x3 (opsA_cons ?o3x3 (opsA_cons ?o4x3 (opsA_cons ?o5x3 opsA_nil)))))) ?restx3
        case hAx3 =>
          intro ptrs
          simp only [full, foldSlots, filledE, postE, List.foldl_cons, List.foldl_nil, List.getD_cons_zero, List.getD_cons_succ, fill_val, List.set_cons_zero, List.set_cons_succ]
          exact rfl
        case o0x3 => exact fun _ _ _ _ => opE_move (v := .pointer (some ⟨mp, 0, none⟩)) _ rfl rfl rfl
        case o1x3 => exact fun _ _ hw _ => opE_value (v := .pointer (some ⟨mp, 0, none⟩)) rfl (run_nc _ rfl _ rfl)
        case o2x3 => exact fun _ _ hw _ => opE_value (v := .pointer (some ⟨mp, 3, none⟩)) rfl (run_fld 79 _ 3 rfl _ _ rfl _ (by kernel_rfl))
        case o3x3 => exact fun _ _ hw _ => opE_value (v := .int .i64 ((h.c : Nat) : Int)) rfl (run_ldc 3 _ rfl mp 3 rfl 79 _ (hw.has kmp) (na3 _) _ rfl)
        case o4x3 => exact fun _ _ hw _ => opE_value (v := .int .i64 ((h.c + 1 : Nat) : Int)) rfl (run_add64 _ _ _ rfl ((h.c : Nat) : Int) 1 _ rfl rfl (by omega) (by omega) (by omega) _)
        case o5x3 => exact fun _ _ _ _ => opE_assign (v := .int .i64 0) _ rfl rfl rfl
        intro ptrs w8 GD hxE
        simp only [List.drop_succ_cons, List.drop_zero]
        replace kmp := GD.has kmp
        replace kgh := GD.has kgh
        replace HR := HR.gro ((Gro.refl _).drew.trans GD)
        replace GG := GG.drew.tg GD
        clear GD
        refine s_val 16 rfl rfl (.int .i64 ((h.c + 1 : Nat) : Int)) (rfl) ?_
        refine nr ?_; intro U h; simp only [z0, z1] at h; subst h
        refine wpList_nil ?_
        refine then_n ?_
        refine wp_block ?_
        refine wp_loopN (fun mz az wv => ∃ (t2 : Nat) (v2 : Nat) (us4 : Nat → Value), mz = 8 - t2 ∧ az = ⟨[.pointer (some ⟨mp, 0, none⟩), .slice ao l.length cap, undef, undef, us1 0, .int .i64 ((secN l.length : Nat) : Int), .slice ao4 ((rawW l).length) cap4, .int .i64 ((j : Nat) : Int), us1 1, us1 2, .slice (some ⟨gh, 0, none⟩) 24 24, .int .i64 ((t0 : Nat) : Int), .int .u64 ((v0 : Nat) : Int), .int .i64 ((t1 : Nat) : Int), .int .i64 ((v1 : Nat) : Int), .int .i64 ((t2 : Nat) : Int), .int .i64 ((v2 : Nat) : Int), undef, .pointer (some ⟨mp, 0, none⟩), .pointer (some ⟨mp, 0, none⟩), .pointer (some ⟨mp, 4, none⟩), .bool false, .slice ao l.length cap, .int .i64 ((l.length : Nat) : Int), .bool false, .slice ao l.length cap, .int .i64 ((secN l.length : Nat) : Int), .int .i64 ((secN l.length : Nat) : Int), .pointer (some ⟨mp, 0, none⟩), .int .i64 ((n - 2 - h.u : Nat) : Int), .bool false, .slice ao l.length cap, .int .i64 ((l.length : Nat) : Int), .int .i64 ((l.length / 256 : Nat) : Int), .int .u8 ((l.length / 256 : Nat) : Int), .slice ao l.length cap, .int .i64 ((l.length : Nat) : Int), .int .i64 ((l.length % 256 : Nat) : Int), .int .u8 ((l.length % 256 : Nat) : Int), .slice (some ⟨gb, 0, none⟩) 2 2, .slice ao l.length cap, .slice ao4 ((rawW l).length) cap4, .int .i64 ((j : Nat) : Int), .int .i64 ((secN l.length : Nat) : Int), .bool false, us1 6, us1 7, us1 8, us1 9, us1 10, us1 11, us1 12, us1 13, us1 14, us1 15, us1 16, us1 17, us1 18, us1 19, us1 20, us1 21, us1 22, us1 23, us1 24, us1 25, us1 26, us1 27, us1 28, us1 29, us1 30, us1 31, us1 32, us1 33, us1 34, us1 35, .slice (some ⟨gh, 0, none⟩) 24 24, .pointer (some ⟨mp, 0, none⟩), .pointer (some ⟨mp, 0, none⟩), .pointer (some ⟨mp, 1, none⟩), .int .u64 ((h.g : Nat) : Int), .int .u64 ((h.g + 1 : Nat) : Int), .int .i64 ((t0 : Nat) : Int), .bool false, us2 2, us2 3, us2 4, us2 5, us2 6, us2 7, us2 8, us2 9, us2 10, us2 11, us2 12, .pointer (some ⟨mp, 0, none⟩), .pointer (some ⟨mp, 0, none⟩), .pointer (some ⟨mp, 2, none⟩), .int .i64 ((h.u : Nat) : Int), .int .i64 ((secN l.length : Nat) : Int), .int .i64 ((h.u + secN l.length : Nat) : Int), .int .i64 ((t1 : Nat) : Int), .bool false, us3 2, us3 3, us3 4, us3 5, us3 6, us3 7, us3 8, us3 9, us3 10, us3 11, us3 12, .pointer (some ⟨mp, 0, none⟩), .pointer (some ⟨mp, 0, none⟩), .pointer (some ⟨mp, 3, none⟩), .int .i64 ((h.c : Nat) : Int), .int .i64 ((h.c + 1 : Nat) : Int), us4 0, us4 1, us4 2, us4 3, us4 4, us4 5, us4 6, us4 7, us4 8, us4 9, us4 10, us4 11, us4 12, undef, undef, undef, undef, undef, undef, undef, undef, undef, undef, undef, undef, undef, undef, undef, undef, undef, undef, undef, undef, undef, undef, undef, undef, undef, undef, undef, undef, undef, undef, undef, undef, undef, undef, undef, undef, undef, undef, undef, undef, undef].toArray, []⟩ ∧ t2 ≤ 8 ∧ v2 = (h.c + 1) / 256 ^ t2 ∧ GroS (rp :: mp :: blk ro) w wv ∧ wv.heap[mp]? = some (.cells (c79 (some ⟨rp, 0, none⟩) ((h.g : Nat) : Int) ((h.u : Nat) : Int) ((h.c : Nat) : Int) false) 79 (0, 0)) ∧ QK wv rp B ro rc n Lk pj dnk ∧ wv.heap[gh]? = some (.cells (bv (layB (wr (wr (zs 24) 0 (beL 8 (h.g + 1))) 8 (beL 8 (h.u + secN l.length))) 16 (h.c + 1) t2)) 5 (0, 0))) ?_ _ ⟨0, (h.c + 1), (fun kz => ([undef, undef, undef, undef, undef, undef, undef, undef, undef, undef, undef, undef, undef] : List Value).getD kz undef), rfl, rfl, Nat.zero_le _, (by simp), GG, kmp, HR, (by rw [layB_0]; exact kgh)⟩
        clear kmp kgh GG HR
        rintro mz az wv ⟨t2, v2, us4, rfl, rfl, ht, hv, GG, kmp, HR, kgh⟩
        have hvl : v2 ≤ (h.c + 1) := by rw [hv]; exact Nat.div_le_self _ _
        refine wp_seq ?_
        refine wp_seq ?_
        refine wp_region_lit ?_
        refine s_val 118 rfl rfl (.int .i64 ((t2 : Nat) : Int)) (rfl) ?_
        refine nr ?_; intro U h; simp only [z0, z1] at h; subst h
        obtain ⟨p4, hp4⟩ : ∃ p, decide (((t2 : Nat) : Int) < 8) = p := ⟨_, rfl⟩
        refine s_val 119 rfl rfl (.bool p4) (run_lssT 3 _ _ _ rfl ((t2 : Nat) : Int) 8 rfl rfl p4 hp4 _) ?_
        refine nr ?_; intro U h; simp only [z0, z1] at h; subst h
        cases p4
        · have htn : t2 = 8 := by have := of_decide_eq_false hp4; omega
          rw [htn, layB_8 (by simp only [wl2]; decide)] at kgh
          rw [head_made ⟨h.g + 1, h.u + secN l.length, h.c + 1⟩] at kgh
          refine wpList_nil ?_
          refine then_n ?_
          refine wp_cond_false rfl ?_
          refine wp_exit ?_
          refine then_x ?_
          refine then_x ?_
          refine blk_x ?_
          refine then_n ?_
          refine wp_seq ?_
          refine wp_seq ?_
          refine wp_region_exA (A := ?Ax4) 12 [(0, 131), (1, 132), (2, 133), (3, 134), (4, 135), (5, 136), (6, 137), (7, 138), (8, 139), (9, 140), (10, 141), (11, 142)] [.val (.pointer (some ⟨mp, 0, none⟩)), .val (.pointer (some ⟨mp, 0, none⟩)), .val (.pointer (some ⟨mp, 0, none⟩)), .val (.pointer (some ⟨rp, 0, none⟩)), .val (.pointer (some ⟨mp, 0, none⟩)), .val (.pointer (some ⟨mp, 0, none⟩)), .val (.pointer (some ⟨mp, 1, none⟩)), .val (.int .u64 ((h.g : Nat) : Int)), .val (.int .u64 ((h.g + 1 : Nat) : Int)), .val (.int .u64 (((h.g + 1) % 2 : Nat) : Int)), .val (.int .i64 (((h.g + 1) % 2 : Nat) : Int)), .val (.slice (some ⟨gh, 0, none⟩) 24 24)] follows (by kernel_rfl) rfl ?hAx4 (opsA_cons ?o0x4 (opsA_cons ?o1x4 (opsA_cons ?o2x4 (opsA_cons ?o3x4 (opsA_cons ?o4x4 (opsA_cons ?o5x4 (opsA_cons ?o6x4 (opsA_cons ?o7x4 (opsA_cons ?o8x4 (opsA_cons ?o9x4 (opsA_cons ?o10x4 (opsA_cons ?o11x4 opsA_nil)))))))))))) ?restx4
          case hAx4 =>
            intro ptrs
            simp only [full, foldSlots, filledE, postE, List.foldl_cons, List.foldl_nil, List.getD_cons_zero, List.getD_cons_succ, fill_val, List.set_cons_zero, List.set_cons_succ]
            exact rfl
          case o0x4 => exact fun _ _ _ _ => opE_move (v := .pointer (some ⟨mp, 0, none⟩)) _ rfl rfl rfl
          case o1x4 => exact fun _ _ hw _ => opE_value (v := .pointer (some ⟨mp, 0, none⟩)) rfl (run_nc _ rfl _ rfl)
          case o2x4 => exact fun _ _ hw _ => opE_value (v := .pointer (some ⟨mp, 0, none⟩)) rfl (run_fld 79 _ 0 rfl _ _ rfl _ (by kernel_rfl))
          case o3x4 => exact fun _ _ hw _ => opE_value (v := .pointer (some ⟨rp, 0, none⟩)) rfl (run_ldc 23 _ rfl mp 0 rfl 79 _ (hw.has kmp) (na23 _) _ rfl)
          case o4x4 => exact fun _ _ _ _ => opE_move (v := .pointer (some ⟨mp, 0, none⟩)) _ rfl rfl rfl
          case o5x4 => exact fun _ _ hw _ => opE_value (v := .pointer (some ⟨mp, 0, none⟩)) rfl (run_nc _ rfl _ rfl)
          case o6x4 => exact fun _ _ hw _ => opE_value (v := .pointer (some ⟨mp, 1, none⟩)) rfl (run_fld 79 _ 1 rfl _ _ rfl _ (by kernel_rfl))
          case o7x4 => exact fun _ _ hw _ => opE_value (v := .int .u64 ((h.g : Nat) : Int)) rfl (run_ldc 75 _ rfl mp 1 rfl 79 _ (hw.has kmp) (na75 _) _ rfl)
          case o8x4 => exact fun _ _ hw _ => opE_value (v := .int .u64 ((h.g + 1 : Nat) : Int)) rfl (run_addUe 75 75 _ _ rfl h.g 1 rfl rfl (by omega) _)
          case o9x4 => exact fun _ _ hw _ => opE_value (v := .int .u64 (((h.g + 1) % 2 : Nat) : Int)) rfl (run_remUe 75 75 _ _ rfl (h.g + 1) rfl rfl _)
          case o10x4 => exact fun _ _ hw _ => opE_value (v := .int .i64 (((h.g + 1) % 2 : Nat) : Int)) rfl (conv253 _ rfl ((h.g + 1) % 2) (by omega) rfl _)
          case o11x4 => exact fun _ _ _ _ => opE_move (v := .slice (some ⟨gh, 0, none⟩) 24 24) _ rfl rfl rfl
          intro ptrs w9 GD hxE
          simp only [List.drop_succ_cons, List.drop_zero]
          replace kmp := GD.has kmp
          replace kgh := GD.has kgh
          replace HR := HR.gro ((Gro.refl _).drew.trans GD)
          replace GG := GG.drew.tg GD
          clear GD
          have h24 := hdL_len ⟨h.g + 1, h.u + secN l.length, h.c + 1⟩
          have hncq := nc_all kgh (hdL_byte ⟨h.g + 1, h.u + secN l.length, h.c + 1⟩)
          by_cases h0 : pj = 0
          · have HX := qwrite_down _ rp B ro rc n _ _ _ HR h0 (some ⟨gh, 0, none⟩) 24 (hdL ⟨h.g + 1, h.u + secN l.length, h.c + 1⟩) ((h.g + 1) % 2) (by omega) (by omega)
            rw [h24] at HX
            refine s_callv 143 rfl rfl _ 35 Try.call35 rfl rfl _ rfl [.pointer (some ⟨rp, 0, none⟩), .int .i64 (((h.g + 1) % 2 : Nat) : Int), .slice (some ⟨gh, 0, none⟩) 24 24] rfl (HX) ?_
            intro w10 G
            replace kmp := G.has kmp
            replace kgh := G.has kgh
            replace HR := HR.gro G
            replace GG := GG.tg G
            clear G
            refine nr ?_; intro U h; simp only [z0, z1] at h; subst h
            clear HX
            refine s_val 17 rfl rfl (.int .i64 8) (rfl) ?_
            refine nr ?_; intro U h; simp only [z0, z1] at h; subst h
            refine wpList_nil ?_
            refine then_n ?_
            refine wp_seq ?_
            refine wp_region_lit ?_
            refine s_val 144 rfl rfl (.int .i64 8) (rfl) ?_
            refine nr ?_; intro U h; simp only [z0, z1] at h; subst h
            refine s_val 145 rfl rfl (.bool true) (run_neq_k 26 .i64 _ _ _ rfl Try.underlying26 _ _ rfl rfl true rfl _) ?_
            refine nr ?_; intro U h; simp only [z0, z1] at h; subst h
            refine wpList_nil ?_
            refine then_n ?_
            refine wp_cond_true rfl ?_
            refine wp_seq ?_
            refine wp_region_lit ?_
            refine s_val 146 rfl rfl (.pointer (some ⟨mp, 0, none⟩)) (rfl) ?_
            refine nr ?_; intro U h; simp only [z0, z1] at h; subst h
            refine s_val 147 rfl rfl (.pointer (some ⟨mp, 0, none⟩)) (run_nc _ rfl _ rfl) ?_
            refine nr ?_; intro U h; simp only [z0, z1] at h; subst h
            refine s_val 148 rfl rfl (.pointer (some ⟨mp, 4, none⟩)) (run_fld 79 _ 4 rfl _ _ rfl _ (by kernel_rfl)) ?_
            refine nr ?_; intro U h; simp only [z0, z1] at h; subst h
            refine s_store rfl rfl 4 _ _ rfl mp 4 rfl (.bool true) rfl 79 _ kmp #[.bool true] rfl (by kernel_rfl) (Nat.le_of_ble_eq_true rfl) (by kernel_rfl) (c79 (some ⟨rp, 0, none⟩) ((h.g : Nat) : Int) ((h.u : Nat) : Int) ((h.c : Nat) : Int) true) (by kernel_rfl) ?_
            intro w12 St
            replace kgh := St.has (by omega) kgh
            replace HR := HR.stq St (by omega) (fun ad ha => by have := hlro ad ha; first | omega | exact hrn ad ha)
            replace GG := GG.st St (.inr (by simp))
            replace kmp := St.new
            clear St
            refine wpList_nil ?_
            refine then_n ?_
            refine wp_seq ?_
            refine wp_region_lit ?_
            refine s_val 149 rfl rfl (.int .i64 8) (rfl) ?_
            refine nr ?_; intro U h; simp only [z0, z1] at h; subst h
            refine s_val 4 rfl rfl (.int .i64 8) (rfl) ?_
            refine nr ?_; intro U h; simp only [z0, z1] at h; subst h
            refine wpList_nil ?_
            refine then_n ?_
            refine wp_ret ?_
            refine then_r ?_
            refine bodyPost_ret (results_tmp Try.results11 _ _ _) rfl ?_
            rw [hjn] at hpj
            have hA := apF hpj (Nat.le_refl _) h0
            unfold RApP apL apH
            rw [hA.1, hA.2.1, hA.2.2, cond_false, take_rec, ← hLk]
            subst h0
            exact ⟨_, rfl, GG, (by omega), (by omega), HR, ⟨kmp⟩⟩
          rw [h24] at hncq
          have HX := qwrite_go _ rp B ro rc n _ _ _ HR (some ⟨gh, 0, none⟩) 24 (hdL ⟨h.g + 1, h.u + secN l.length, h.c + 1⟩) ⟨hncq, fun ad ha _ => by cases ha; simp only [List.mem_cons, mem_blk, not_or]; exact ⟨by omega, fun ⟨a, h3, h4⟩ => by have := hlro a h3; omega⟩⟩ ((h.g + 1) % 2) (by omega) (by omega) (hpj.may h0) (hpj.lt hP) (by omega) (by omega)
          rw [h24] at HX
          refine s_callx 143 rfl rfl _ 35 Try.call35 rfl rfl _ rfl [.pointer (some ⟨rp, 0, none⟩), .int .i64 (((h.g + 1) % 2 : Nat) : Int), .slice (some ⟨gh, 0, none⟩) 24 24] rfl (HX) (fun _ _ ⟨he, _⟩ => ⟨_, he⟩) ?_
          rintro v w10 ⟨he, G, HR2⟩
          cases he
          replace kmp := G.has kmp hmpS
          replace GG := GG.trans (G.mono hsub)
          clear G HR HX hncq kgh
          have HR := HR2
          clear HR2
          refine nr ?_; intro U h; simp only [z0, z1] at h; subst h
          refine s_val 17 rfl rfl (.int .i64 0) (rfl) ?_
          refine nr ?_; intro U h; simp only [z0, z1] at h; subst h
          refine wpList_nil ?_
          refine then_n ?_
          refine wp_seq ?_
          refine wp_region_lit ?_
          refine s_val 144 rfl rfl (.int .i64 0) (rfl) ?_
          refine nr ?_; intro U h; simp only [z0, z1] at h; subst h
          refine s_val 145 rfl rfl (.bool false) (run_neq_k 26 .i64 _ _ _ rfl Try.underlying26 _ _ rfl rfl false rfl _) ?_
          refine nr ?_; intro U h; simp only [z0, z1] at h; subst h
          refine wpList_nil ?_
          refine then_n ?_
          refine wp_cond_false rfl ?_
          refine wp_skip ?_
          refine then_n ?_
          refine wp_seq ?_
          refine wp_region_lit ?_
          refine s_val 150 rfl rfl (.pointer (some ⟨mp, 0, none⟩)) (rfl) ?_
          refine nr ?_; intro U h; simp only [z0, z1] at h; subst h
          refine s_val 151 rfl rfl (.pointer (some ⟨mp, 0, none⟩)) (run_nc _ rfl _ rfl) ?_
          refine nr ?_; intro U h; simp only [z0, z1] at h; subst h
          refine s_val 152 rfl rfl (.pointer (some ⟨mp, 1, none⟩)) (run_fld 79 _ 1 rfl _ _ rfl _ (by kernel_rfl)) ?_
          refine nr ?_; intro U h; simp only [z0, z1] at h; subst h
          refine s_val 153 rfl rfl (.int .u64 ((h.g : Nat) : Int)) (run_ldc 75 _ rfl mp 1 rfl 79 _ kmp (na75 _) _ rfl) ?_
          refine nr ?_; intro U h; simp only [z0, z1] at h; subst h
          refine s_val 154 rfl rfl (.int .u64 ((h.g + 1 : Nat) : Int)) (run_addUe 75 75 _ _ rfl h.g 1 rfl rfl (by omega) _) ?_
          refine nr ?_; intro U h; simp only [z0, z1] at h; subst h
          refine s_val 155 rfl rfl (.pointer (some ⟨mp, 0, none⟩)) (run_nc _ rfl _ rfl) ?_
          refine nr ?_; intro U h; simp only [z0, z1] at h; subst h
          refine s_val 156 rfl rfl (.pointer (some ⟨mp, 1, none⟩)) (run_fld 79 _ 1 rfl _ _ rfl _ (by kernel_rfl)) ?_
          refine nr ?_; intro U h; simp only [z0, z1] at h; subst h
          refine s_store rfl rfl 75 _ _ rfl mp 1 rfl (.int .u64 ((h.g + 1 : Nat) : Int)) rfl 79 _ kmp #[.int .u64 ((h.g + 1 : Nat) : Int)] rfl (by kernel_rfl) (Nat.le_of_ble_eq_true rfl) (by kernel_rfl) (c79 (some ⟨rp, 0, none⟩) ((h.g + 1 : Nat) : Int) ((h.u : Nat) : Int) ((h.c : Nat) : Int) false) (by kernel_rfl) ?_
          intro w12 St
          replace HR := HR.stq St (by omega) (fun ad ha => by have := hlro ad ha; first | omega | exact hrn ad ha)
          replace GG := GG.st St (.inr (by simp))
          replace kmp := St.new
          clear St
          refine wpList_nil ?_
          refine then_n ?_
          refine wp_seq ?_
          refine wp_region_lit ?_
          refine s_val 157 rfl rfl (.pointer (some ⟨mp, 0, none⟩)) (rfl) ?_
          refine nr ?_; intro U h; simp only [z0, z1] at h; subst h
          refine s_val 158 rfl rfl (.pointer (some ⟨mp, 0, none⟩)) (run_nc _ rfl _ rfl) ?_
          refine nr ?_; intro U h; simp only [z0, z1] at h; subst h
          refine s_val 159 rfl rfl (.pointer (some ⟨mp, 2, none⟩)) (run_fld 79 _ 2 rfl _ _ rfl _ (by kernel_rfl)) ?_
          refine nr ?_; intro U h; simp only [z0, z1] at h; subst h
          refine s_val 160 rfl rfl (.int .i64 ((h.u : Nat) : Int)) (run_ldc 3 _ rfl mp 2 rfl 79 _ kmp (na3 _) _ rfl) ?_
          refine nr ?_; intro U h; simp only [z0, z1] at h; subst h
          refine s_val 161 rfl rfl (.int .i64 ((secN l.length : Nat) : Int)) (rfl) ?_
          refine nr ?_; intro U h; simp only [z0, z1] at h; subst h
          refine s_val 162 rfl rfl (.int .i64 ((h.u + secN l.length : Nat) : Int)) (run_add64 _ _ _ rfl ((h.u : Nat) : Int) ((secN l.length : Nat) : Int) _ rfl rfl (by omega) (by omega) (by omega) _) ?_
          refine nr ?_; intro U h; simp only [z0, z1] at h; subst h
          refine s_val 163 rfl rfl (.pointer (some ⟨mp, 0, none⟩)) (run_nc _ rfl _ rfl) ?_
          refine nr ?_; intro U h; simp only [z0, z1] at h; subst h
          refine s_val 164 rfl rfl (.pointer (some ⟨mp, 2, none⟩)) (run_fld 79 _ 2 rfl _ _ rfl _ (by kernel_rfl)) ?_
          refine nr ?_; intro U h; simp only [z0, z1] at h; subst h
          refine s_store rfl rfl 3 _ _ rfl mp 2 rfl (.int .i64 ((h.u + secN l.length : Nat) : Int)) rfl 79 _ kmp #[.int .i64 ((h.u + secN l.length : Nat) : Int)] rfl (by kernel_rfl) (Nat.le_of_ble_eq_true rfl) (by kernel_rfl) (c79 (some ⟨rp, 0, none⟩) ((h.g + 1 : Nat) : Int) ((h.u + secN l.length : Nat) : Int) ((h.c : Nat) : Int) false) (by kernel_rfl) ?_
          intro w14 St
          replace HR := HR.stq St (by omega) (fun ad ha => by have := hlro ad ha; first | omega | exact hrn ad ha)
          replace GG := GG.st St (.inr (by simp))
          replace kmp := St.new
          clear St
          refine wpList_nil ?_
          refine then_n ?_
          refine wp_seq ?_
          refine wp_region_lit ?_
          refine s_val 165 rfl rfl (.pointer (some ⟨mp, 0, none⟩)) (rfl) ?_
          refine nr ?_; intro U h; simp only [z0, z1] at h; subst h
          refine s_val 166 rfl rfl (.pointer (some ⟨mp, 0, none⟩)) (run_nc _ rfl _ rfl) ?_
          refine nr ?_; intro U h; simp only [z0, z1] at h; subst h
          refine s_val 167 rfl rfl (.pointer (some ⟨mp, 3, none⟩)) (run_fld 79 _ 3 rfl _ _ rfl _ (by kernel_rfl)) ?_
          refine nr ?_; intro U h; simp only [z0, z1] at h; subst h
          refine s_val 168 rfl rfl (.int .i64 ((h.c : Nat) : Int)) (run_ldc 3 _ rfl mp 3 rfl 79 _ kmp (na3 _) _ rfl) ?_
          refine nr ?_; intro U h; simp only [z0, z1] at h; subst h
          refine s_val 169 rfl rfl (.int .i64 ((h.c + 1 : Nat) : Int)) (run_add64 _ _ _ rfl ((h.c : Nat) : Int) 1 _ rfl rfl (by omega) (by omega) (by omega) _) ?_
          refine nr ?_; intro U h; simp only [z0, z1] at h; subst h
          refine s_val 170 rfl rfl (.pointer (some ⟨mp, 0, none⟩)) (run_nc _ rfl _ rfl) ?_
          refine nr ?_; intro U h; simp only [z0, z1] at h; subst h
          refine s_val 171 rfl rfl (.pointer (some ⟨mp, 3, none⟩)) (run_fld 79 _ 3 rfl _ _ rfl _ (by kernel_rfl)) ?_
          refine nr ?_; intro U h; simp only [z0, z1] at h; subst h
          refine s_store rfl rfl 3 _ _ rfl mp 3 rfl (.int .i64 ((h.c + 1 : Nat) : Int)) rfl 79 _ kmp #[.int .i64 ((h.c + 1 : Nat) : Int)] rfl (by kernel_rfl) (Nat.le_of_ble_eq_true rfl) (by kernel_rfl) (c79 (some ⟨rp, 0, none⟩) ((h.g + 1 : Nat) : Int) ((h.u + secN l.length : Nat) : Int) ((h.c + 1 : Nat) : Int) false) (by kernel_rfl) ?_
          intro w16 St
          replace HR := HR.stq St (by omega) (fun ad ha => by have := hlro ad ha; first | omega | exact hrn ad ha)
          replace GG := GG.st St (.inr (by simp))
          replace kmp := St.new
          clear St
          refine wpList_nil ?_
          refine then_n ?_
          refine wp_seq ?_
          refine wp_region_lit ?_
          refine s_val 4 rfl rfl (.int .i64 0) (rfl) ?_
          refine nr ?_; intro U h; simp only [z0, z1] at h; subst h
          refine wpList_nil ?_
          refine then_n ?_
          refine wp_ret ?_
          refine bodyPost_ret (results_tmp Try.results11 _ _ _) rfl ?_
          rw [hjn] at hpj
          have hA := apS hpj h0
          unfold RApP apL apH
          rw [hA.1, hA.2]
          rw [hLk] at HR
          exact ⟨_, rfl, GG, (by omega), (by omega), HR, ⟨kmp⟩⟩
        have htn : t2 < 8 := by have := of_decide_eq_true hp4; omega
        refine wpList_nil ?_
        refine then_n ?_
        refine wp_cond_true rfl ?_
        refine wp_skip ?_
        refine then_n ?_
        refine wp_seq ?_
        refine wp_block ?_
        refine wp_region_lit ?_
        refine s_val 124 rfl rfl (.slice (some ⟨gh, 0, none⟩) 24 24) (rfl) ?_
        refine nr ?_; intro U h; simp only [z0, z1] at h; subst h
        refine s_val 125 rfl rfl (.int .i64 ((t2 : Nat) : Int)) (rfl) ?_
        refine nr ?_; intro U h; simp only [z0, z1] at h; subst h
        refine s_val 126 rfl rfl (.int .i64 ((16 + 7 - t2 : Nat) : Int)) (run_sub64 _ _ _ rfl 23 ((t2 : Nat) : Int) _ rfl rfl (by omega) (by omega) (by omega) _) ?_
        refine nr ?_; intro U h; simp only [z0, z1] at h; subst h
        refine s_val 127 rfl rfl (.int .i64 ((v2 : Nat) : Int)) (rfl) ?_
        refine nr ?_; intro U h; simp only [z0, z1] at h; subst h
        refine s_val 128 rfl rfl (.int .i64 ((v2 % 256 : Nat) : Int)) (run_rem64 _ _ _ rfl ((v2 : Nat) : Int) 256 _ rfl rfl (by decide) (tmodN _ 256) (by omega) (by omega) _) ?_
        refine nr ?_; intro U h; simp only [z0, z1] at h; subst h
        refine s_val 129 rfl rfl (.int .u8 ((v2 % 256 : Nat) : Int)) (conv35 _ rfl (v2 % 256) (Nat.mod_lt _ (by decide)) rfl _) ?_
        refine nr ?_; intro U h; simp only [z0, z1] at h; subst h
        refine s_val 130 rfl rfl (.pointer (some ⟨gh, 16 + 7 - t2, none⟩)) (bat _ _ rfl gh 24 24 (16 + 7 - t2) rfl rfl (by omega) _) ?_
        refine nr ?_; intro U h; simp only [z0, z1] at h; subst h
        refine s_store rfl rfl 5 _ _ rfl gh (16 + 7 - t2) rfl (.int .u8 (((v2 % 256) : Nat) : Int)) rfl 5 _ kgh #[.int .u8 (((v2 % 256) : Nat) : Int)] rfl si5 (by simp only [List.size_toArray, List.length_cons, List.length_nil, bv_size]; rw [layB_len (by simp only [wl2]; decide) ht]; simp only [wl2]; omega) (one1 _) _ (bv_set (layB (wr (wr (zs 24) 0 (beL 8 (h.g + 1))) 8 (beL 8 (h.u + secN l.length))) 16 (h.c + 1) t2) (16 + 7 - t2) (v2 % 256) (by rw [layB_len (by simp only [wl2]; decide) ht]; simp only [wl2]; omega)) ?_
        intro w9 St
        replace kmp := St.has (by omega) kmp
        replace HR := HR.stq St (by omega) (fun ad ha => by have := hlro ad ha; first | omega | exact hrn ad ha)
        replace GG := GG.st St (.inl bgh)
        replace kgh := St.new
        clear St
        rw [show v2 % 256 = (h.c + 1) / 256 ^ t2 % 256 by rw [hv], layB_next (by simp only [wl2]; decide) htn] at kgh
        refine wpList_nil ?_
        refine blk_n ?_
        refine then_n ?_
        refine wp_region_lit ?_
        refine s_val 120 rfl rfl (.int .i64 ((t2 : Nat) : Int)) (rfl) ?_
        refine nr ?_; intro U h; simp only [z0, z1] at h; subst h
        refine s_val 121 rfl rfl (.int .i64 ((t2 + 1 : Nat) : Int)) (run_add64 _ _ _ rfl ((t2 : Nat) : Int) 1 _ rfl rfl (by omega) (by omega) (by omega) _) ?_
        refine nr ?_; intro U h; simp only [z0, z1] at h; subst h
        refine s_val 122 rfl rfl (.int .i64 ((v2 : Nat) : Int)) (rfl) ?_
        refine nr ?_; intro U h; simp only [z0, z1] at h; subst h
        refine s_val 123 rfl rfl (.int .i64 ((v2 / 256 : Nat) : Int)) (run_quo64 _ _ _ rfl ((v2 : Nat) : Int) 256 _ rfl rfl (by decide) (tdivN _ 256) (by omega) (by omega) _) ?_
        refine nr ?_; intro U h; simp only [z0, z1] at h; subst h
        refine s_val 15 rfl rfl (.int .i64 ((t2 + 1 : Nat) : Int)) (rfl) ?_
        refine nr ?_; intro U h; simp only [z0, z1] at h; subst h
        refine s_val 16 rfl rfl (.int .i64 ((v2 / 256 : Nat) : Int)) (rfl) ?_
        refine nr ?_; intro U h; simp only [z0, z1] at h; subst h
        refine wpList_nil ?_
        refine then_n ?_
        exact ⟨_, (by omega : 8 - (t2 + 1) < 8 - t2), t2 + 1, v2 / 256, (fun kz => ([.int .i64 ((t2 : Nat) : Int), .bool true, .int .i64 ((t2 : Nat) : Int), .int .i64 ((t2 + 1 : Nat) : Int), .int .i64 ((v2 : Nat) : Int), .int .i64 ((v2 / 256 : Nat) : Int), .slice (some ⟨gh, 0, none⟩) 24 24, .int .i64 ((t2 : Nat) : Int), .int .i64 ((16 + 7 - t2 : Nat) : Int), .int .i64 ((v2 : Nat) : Int), .int .i64 ((v2 % 256 : Nat) : Int), .int .u8 ((v2 % 256 : Nat) : Int), .pointer (some ⟨gh, 16 + 7 - t2, none⟩)] : List Value).getD kz undef), rfl, rfl, htn, (by rw [hv]; exact div_stp _ _), GG, kmp, HR, kgh⟩
      have htn : t1 < 8 := by have := of_decide_eq_true hp3; omega
      refine wpList_nil ?_
      refine then_n ?_
      refine wp_cond_true rfl ?_
      refine wp_skip ?_
      refine then_n ?_
      refine wp_seq ?_
      refine wp_block ?_
      refine wp_region_lit ?_
      refine s_val 106 rfl rfl (.slice (some ⟨gh, 0, none⟩) 24 24) (rfl) ?_
      refine nr ?_; intro U h; simp only [z0, z1] at h; subst h
      refine s_val 107 rfl rfl (.int .i64 ((t1 : Nat) : Int)) (rfl) ?_
      refine nr ?_; intro U h; simp only [z0, z1] at h; subst h
      refine s_val 108 rfl rfl (.int .i64 ((8 + 7 - t1 : Nat) : Int)) (run_sub64 _ _ _ rfl 15 ((t1 : Nat) : Int) _ rfl rfl (by omega) (by omega) (by omega) _) ?_
      refine nr ?_; intro U h; simp only [z0, z1] at h; subst h
      refine s_val 109 rfl rfl (.int .i64 ((v1 : Nat) : Int)) (rfl) ?_
      refine nr ?_; intro U h; simp only [z0, z1] at h; subst h
      refine s_val 110 rfl rfl (.int .i64 ((v1 % 256 : Nat) : Int)) (run_rem64 _ _ _ rfl ((v1 : Nat) : Int) 256 _ rfl rfl (by decide) (tmodN _ 256) (by omega) (by omega) _) ?_
      refine nr ?_; intro U h; simp only [z0, z1] at h; subst h
      refine s_val 111 rfl rfl (.int .u8 ((v1 % 256 : Nat) : Int)) (conv35 _ rfl (v1 % 256) (Nat.mod_lt _ (by decide)) rfl _) ?_
      refine nr ?_; intro U h; simp only [z0, z1] at h; subst h
      refine s_val 112 rfl rfl (.pointer (some ⟨gh, 8 + 7 - t1, none⟩)) (bat _ _ rfl gh 24 24 (8 + 7 - t1) rfl rfl (by omega) _) ?_
      refine nr ?_; intro U h; simp only [z0, z1] at h; subst h
      refine s_store rfl rfl 5 _ _ rfl gh (8 + 7 - t1) rfl (.int .u8 (((v1 % 256) : Nat) : Int)) rfl 5 _ kgh #[.int .u8 (((v1 % 256) : Nat) : Int)] rfl si5 (by simp only [List.size_toArray, List.length_cons, List.length_nil, bv_size]; rw [layB_len (by simp only [wl1]; decide) ht]; simp only [wl1]; omega) (one1 _) _ (bv_set (layB (wr (zs 24) 0 (beL 8 (h.g + 1))) 8 (h.u + secN l.length) t1) (8 + 7 - t1) (v1 % 256) (by rw [layB_len (by simp only [wl1]; decide) ht]; simp only [wl1]; omega)) ?_
      intro w8 St
      replace kmp := St.has (by omega) kmp
      replace HR := HR.stq St (by omega) (fun ad ha => by have := hlro ad ha; first | omega | exact hrn ad ha)
      replace GG := GG.st St (.inl bgh)
      replace kgh := St.new
      clear St
      rw [show v1 % 256 = (h.u + secN l.length) / 256 ^ t1 % 256 by rw [hv], layB_next (by simp only [wl1]; decide) htn] at kgh
      refine wpList_nil ?_
      refine blk_n ?_
      refine then_n ?_
      refine wp_region_lit ?_
      refine s_val 102 rfl rfl (.int .i64 ((t1 : Nat) : Int)) (rfl) ?_
      refine nr ?_; intro U h; simp only [z0, z1] at h; subst h
      refine s_val 103 rfl rfl (.int .i64 ((t1 + 1 : Nat) : Int)) (run_add64 _ _ _ rfl ((t1 : Nat) : Int) 1 _ rfl rfl (by omega) (by omega) (by omega) _) ?_
      refine nr ?_; intro U h; simp only [z0, z1] at h; subst h
      refine s_val 104 rfl rfl (.int .i64 ((v1 : Nat) : Int)) (rfl) ?_
      refine nr ?_; intro U h; simp only [z0, z1] at h; subst h
      refine s_val 105 rfl rfl (.int .i64 ((v1 / 256 : Nat) : Int)) (run_quo64 _ _ _ rfl ((v1 : Nat) : Int) 256 _ rfl rfl (by decide) (tdivN _ 256) (by omega) (by omega) _) ?_
      refine nr ?_; intro U h; simp only [z0, z1] at h; subst h
      refine s_val 13 rfl rfl (.int .i64 ((t1 + 1 : Nat) : Int)) (rfl) ?_
      refine nr ?_; intro U h; simp only [z0, z1] at h; subst h
      refine s_val 14 rfl rfl (.int .i64 ((v1 / 256 : Nat) : Int)) (rfl) ?_
      refine nr ?_; intro U h; simp only [z0, z1] at h; subst h
      refine wpList_nil ?_
      refine then_n ?_
      exact ⟨_, (by omega : 8 - (t1 + 1) < 8 - t1), t1 + 1, v1 / 256, (fun kz => ([.int .i64 ((t1 : Nat) : Int), .bool true, .int .i64 ((t1 : Nat) : Int), .int .i64 ((t1 + 1 : Nat) : Int), .int .i64 ((v1 : Nat) : Int), .int .i64 ((v1 / 256 : Nat) : Int), .slice (some ⟨gh, 0, none⟩) 24 24, .int .i64 ((t1 : Nat) : Int), .int .i64 ((8 + 7 - t1 : Nat) : Int), .int .i64 ((v1 : Nat) : Int), .int .i64 ((v1 % 256 : Nat) : Int), .int .u8 ((v1 % 256 : Nat) : Int), .pointer (some ⟨gh, 8 + 7 - t1, none⟩)] : List Value).getD kz undef), rfl, rfl, htn, (by rw [hv]; exact div_stp _ _), GG, kmp, HR, kgh⟩
    have htn : t0 < 8 := by have := of_decide_eq_true hp2; omega
    refine wpList_nil ?_
    refine then_n ?_
    refine wp_cond_true rfl ?_
    refine wp_skip ?_
    refine then_n ?_
    refine wp_seq ?_
    refine wp_block ?_
    refine wp_region_lit ?_
    refine s_val 87 rfl rfl (.slice (some ⟨gh, 0, none⟩) 24 24) (rfl) ?_
    refine nr ?_; intro U h; simp only [z0, z1] at h; subst h
    refine s_val 88 rfl rfl (.int .i64 ((t0 : Nat) : Int)) (rfl) ?_
    refine nr ?_; intro U h; simp only [z0, z1] at h; subst h
    refine s_val 89 rfl rfl (.int .i64 ((0 + 7 - t0 : Nat) : Int)) (run_sub64 _ _ _ rfl 7 ((t0 : Nat) : Int) _ rfl rfl (by omega) (by omega) (by omega) _) ?_
    refine nr ?_; intro U h; simp only [z0, z1] at h; subst h
    refine s_val 90 rfl rfl (.int .u64 ((v0 : Nat) : Int)) (rfl) ?_
    refine nr ?_; intro U h; simp only [z0, z1] at h; subst h
    refine s_val 91 rfl rfl (.int .u64 ((v0 % 256 : Nat) : Int)) (run_remN 75 75 _ _ rfl v0 256 rfl rfl (by decide) _) ?_
    refine nr ?_; intro U h; simp only [z0, z1] at h; subst h
    refine s_val 92 rfl rfl (.int .u8 ((v0 % 256 : Nat) : Int)) (conv255 _ rfl (v0 % 256) (v0 % 256) (Nat.mod_mod _ _) rfl _) ?_
    refine nr ?_; intro U h; simp only [z0, z1] at h; subst h
    refine s_val 93 rfl rfl (.pointer (some ⟨gh, 0 + 7 - t0, none⟩)) (bat _ _ rfl gh 24 24 (0 + 7 - t0) rfl rfl (by omega) _) ?_
    refine nr ?_; intro U h; simp only [z0, z1] at h; subst h
    refine s_store rfl rfl 5 _ _ rfl gh (0 + 7 - t0) rfl (.int .u8 (((v0 % 256) : Nat) : Int)) rfl 5 _ kgh #[.int .u8 (((v0 % 256) : Nat) : Int)] rfl si5 (by simp only [List.size_toArray, List.length_cons, List.length_nil, bv_size]; rw [layB_len (by simp only [zs_len]; decide) ht]; simp only [zs_len]; omega) (one1 _) _ (bv_set (layB (zs 24) 0 (h.g + 1) t0) (0 + 7 - t0) (v0 % 256) (by rw [layB_len (by simp only [zs_len]; decide) ht]; simp only [zs_len]; omega)) ?_
    intro w7 St
    replace kmp := St.has (by omega) kmp
    replace HR := HR.stq St (by omega) (fun ad ha => by have := hlro ad ha; first | omega | exact hrn ad ha)
    replace GG := GG.st St (.inl bgh)
    replace kgh := St.new
    clear St
    rw [show v0 % 256 = (h.g + 1) / 256 ^ t0 % 256 by rw [hv], layB_next (by simp only [zs_len]; decide) htn] at kgh
    refine wpList_nil ?_
    refine blk_n ?_
    refine then_n ?_
    refine wp_region_lit ?_
    refine s_val 83 rfl rfl (.int .i64 ((t0 : Nat) : Int)) (rfl) ?_
    refine nr ?_; intro U h; simp only [z0, z1] at h; subst h
    refine s_val 84 rfl rfl (.int .i64 ((t0 + 1 : Nat) : Int)) (run_add64 _ _ _ rfl ((t0 : Nat) : Int) 1 _ rfl rfl (by omega) (by omega) (by omega) _) ?_
    refine nr ?_; intro U h; simp only [z0, z1] at h; subst h
    refine s_val 85 rfl rfl (.int .u64 ((v0 : Nat) : Int)) (rfl) ?_
    refine nr ?_; intro U h; simp only [z0, z1] at h; subst h
    refine s_val 86 rfl rfl (.int .u64 ((v0 / 256 : Nat) : Int)) (run_quoUe 75 75 _ _ rfl v0 256 rfl rfl (by decide) (by omega) _) ?_
    refine nr ?_; intro U h; simp only [z0, z1] at h; subst h
    refine s_val 11 rfl rfl (.int .i64 ((t0 + 1 : Nat) : Int)) (rfl) ?_
    refine nr ?_; intro U h; simp only [z0, z1] at h; subst h
    refine s_val 12 rfl rfl (.int .u64 ((v0 / 256 : Nat) : Int)) (rfl) ?_
    refine nr ?_; intro U h; simp only [z0, z1] at h; subst h
    refine wpList_nil ?_
    refine then_n ?_
    exact ⟨_, (by omega : 8 - (t0 + 1) < 8 - t0), t0 + 1, v0 / 256, (fun kz => ([.int .i64 ((t0 : Nat) : Int), .bool true, .int .i64 ((t0 : Nat) : Int), .int .i64 ((t0 + 1 : Nat) : Int), .int .u64 ((v0 : Nat) : Int), .int .u64 ((v0 / 256 : Nat) : Int), .slice (some ⟨gh, 0, none⟩) 24 24, .int .i64 ((t0 : Nat) : Int), .int .i64 ((0 + 7 - t0 : Nat) : Int), .int .u64 ((v0 : Nat) : Int), .int .u64 ((v0 % 256 : Nat) : Int), .int .u8 ((v0 % 256 : Nat) : Int), .pointer (some ⟨gh, 0 + 7 - t0, none⟩)] : List Value).getD kz undef), rfl, rfl, htn, (by rw [hv]; exact div_stp _ _), GG, kmp, HR, kgh⟩
  have hjn : j < secN l.length := by have := of_decide_eq_true hp1; omega
  refine wpList_nil ?_
  refine then_n ?_
  refine wp_cond_true rfl ?_
  refine wp_skip ?_
  refine then_n ?_
  refine wp_seq ?_
  refine wp_block ?_
  refine wp_seq ?_
  refine wp_region_lit ?_
  refine s_val 47 rfl rfl (.slice ao4 ((rawW l).length) cap4) (rfl) ?_
  refine nr ?_; intro U h; simp only [z0, z1] at h; subst h
  refine s_val 48 rfl rfl (.int .i64 ((j : Nat) : Int)) (rfl) ?_
  refine nr ?_; intro U h; simp only [z0, z1] at h; subst h
  refine s_val 49 rfl rfl (.int .i64 ((j * 64 : Nat) : Int)) (run_mul64 _ _ _ rfl 64 ((j : Nat) : Int) _ rfl rfl (by omega) (by omega) (by omega) _) ?_
  refine nr ?_; intro U h; simp only [z0, z1] at h; subst h
  refine s_val 50 rfl rfl (.slice (cutA ao4 cap4 (j * 64)) ((rawW l).length - j * 64) (cap4 - j * 64)) (run_cutE _ _ rfl ao4 (rawW l).length cap4 (j * 64) rfl rfl (by rw [rawW_len]; omega) _) ?_
  refine nr ?_; intro U h; simp only [z0, z1] at h; subst h
  refine s_val 8 rfl rfl (.slice (cutA ao4 cap4 (j * 64)) ((rawW l).length - j * 64) (cap4 - j * 64)) (rfl) ?_
  refine nr ?_; intro U h; simp only [z0, z1] at h; subst h
  refine wpList_nil ?_
  refine then_n ?_
  refine wp_seq ?_
  refine wp_seq ?_
  refine wp_region_lit ?_
  refine s_val 51 rfl rfl (.slice (cutA ao4 cap4 (j * 64)) ((rawW l).length - j * 64) (cap4 - j * 64)) (rfl) ?_
  refine nr ?_; intro U h; simp only [z0, z1] at h; subst h
  refine s_val 52 rfl rfl (.int .i64 (((rawW l).length - j * 64 : Nat) : Int)) (run_len Try.underlying30 _ rfl _ _ _ rfl _) ?_
  refine nr ?_; intro U h; simp only [z0, z1] at h; subst h
  obtain ⟨p2, hp2⟩ : ∃ p, decide (64 < (((rawW l).length - j * 64 : Nat) : Int)) = p := ⟨_, rfl⟩
  refine s_val 53 rfl rfl (.bool p2) (run_gtrT 3 _ _ _ rfl (((rawW l).length - j * 64 : Nat) : Int) 64 rfl rfl p2 hp2 _) ?_
  refine nr ?_; intro U h; simp only [z0, z1] at h; subst h
  cases p2
  · have hlong : (rawW l).length - j * 64 ≤ 64 := by have := of_decide_eq_false hp2; omega
    refine wpList_nil ?_
    refine then_n ?_
    refine wp_cond_false rfl ?_
    refine wp_skip ?_
    refine then_n ?_
    refine wp_seq ?_
    refine wp_region_exA (A := ?Ax5) 12 [(0, 56), (1, 57), (2, 58), (3, 59), (4, 60), (5, 61), (6, 62), (7, 63), (8, 64), (9, 65), (10, 66), (11, 67)] [.val (.pointer (some ⟨mp, 0, none⟩)), .val (.pointer (some ⟨mp, 0, none⟩)), .val (.pointer (some ⟨mp, 0, none⟩)), .val (.pointer (some ⟨rp, 0, none⟩)), .val (.pointer (some ⟨mp, 0, none⟩)), .val (.pointer (some ⟨mp, 0, none⟩)), .val (.pointer (some ⟨mp, 2, none⟩)), .val (.int .i64 ((h.u : Nat) : Int)), .val (.int .i64 ((2 + h.u : Nat) : Int)), .val (.int .i64 ((j : Nat) : Int)), .val (.int .i64 ((2 + h.u + j : Nat) : Int)), .val (.slice (cutA ao4 cap4 (j * 64)) ((rawW l).length - j * 64) (cap4 - j * 64))] follows (by kernel_rfl) rfl ?hAx5 (opsA_cons ?o0x5 (opsA_cons ?o1x5 (opsA_cons ?o2x5 (opsA_cons ?o3x5 (opsA_cons ?o4x5 (opsA_cons ?o5x5 (opsA_cons ?o6x5 (opsA_cons ?o7x5 (opsA_cons ?o8x5 (opsA_cons ?o9x5 (opsA_cons ?o10x5 (opsA_cons ?o11x5 opsA_nil)))))))))))) ?restx5
    case hAx5 =>
      intro ptrs
      simp only [full, foldSlots, filledE, postE, List.foldl_cons, List.foldl_nil, List.getD_cons_zero, List.getD_cons_succ, fill_val, List.set_cons_zero, List.set_cons_succ]
      exact rfl
    case o0x5 => exact fun _ _ _ _ => opE_move (v := .pointer (some ⟨mp, 0, none⟩)) _ rfl rfl rfl
    case o1x5 => exact fun _ _ hw _ => opE_value (v := .pointer (some ⟨mp, 0, none⟩)) rfl (run_nc _ rfl _ rfl)
    case o2x5 => exact fun _ _ hw _ => opE_value (v := .pointer (some ⟨mp, 0, none⟩)) rfl (run_fld 79 _ 0 rfl _ _ rfl _ (by kernel_rfl))
    case o3x5 => exact fun _ _ hw _ => opE_value (v := .pointer (some ⟨rp, 0, none⟩)) rfl (run_ldc 23 _ rfl mp 0 rfl 79 _ (hw.has kmp) (na23 _) _ rfl)
    case o4x5 => exact fun _ _ _ _ => opE_move (v := .pointer (some ⟨mp, 0, none⟩)) _ rfl rfl rfl
    case o5x5 => exact fun _ _ hw _ => opE_value (v := .pointer (some ⟨mp, 0, none⟩)) rfl (run_nc _ rfl _ rfl)
    case o6x5 => exact fun _ _ hw _ => opE_value (v := .pointer (some ⟨mp, 2, none⟩)) rfl (run_fld 79 _ 2 rfl _ _ rfl _ (by kernel_rfl))
    case o7x5 => exact fun _ _ hw _ => opE_value (v := .int .i64 ((h.u : Nat) : Int)) rfl (run_ldc 3 _ rfl mp 2 rfl 79 _ (hw.has kmp) (na3 _) _ rfl)
    case o8x5 => exact fun _ _ hw _ => opE_value (v := .int .i64 ((2 + h.u : Nat) : Int)) rfl (run_add64 _ _ _ rfl 2 ((h.u : Nat) : Int) _ rfl rfl (by omega) (by omega) (by omega) _)
    case o9x5 => exact fun _ _ _ _ => opE_move (v := .int .i64 ((j : Nat) : Int)) _ rfl rfl rfl
    case o10x5 => exact fun _ _ hw _ => opE_value (v := .int .i64 ((2 + h.u + j : Nat) : Int)) rfl (run_add64 _ _ _ rfl ((2 + h.u : Nat) : Int) ((j : Nat) : Int) _ rfl rfl (by omega) (by omega) (by omega) _)
    case o11x5 => exact fun _ _ _ _ => opE_move (v := .slice (cutA ao4 cap4 (j * 64)) ((rawW l).length - j * 64) (cap4 - j * 64)) _ rfl rfl rfl
    intro ptrs w5 GD hxE
    simp only [List.drop_succ_cons, List.drop_zero]
    replace kmp := GD.has kmp
    replace HR := HR.gro ((Gro.refl _).drew.trans GD)
    replace HO := HO.gro ((Gro.refl _).drew.trans GD)
    replace GG := GG.drew.tg GD
    clear GD
    have hchl : (((rawW l).drop (j * 64)).take 64).length = (rawW l).length - j * 64 := by rw [List.length_take, List.length_drop, rawW_len]; rw [rawW_len] at hlong; omega
    have hnc := HO.nc.cutE (j * 64) (by rw [rawW_len]; omega)
    rw [← List.take_of_length_le (show ((rawW l).drop (j * 64)).length ≤ 64 by rw [List.length_drop]; omega)] at hnc
    by_cases h0 : pj = 0
    · have HX := qwrite_down _ rp B ro rc n _ _ _ HR h0 (cutA ao4 cap4 (j * 64)) (cap4 - j * 64) (((rawW l).drop (j * 64)).take 64) (2 + h.u + j) (by omega) (chunk_len l j)
      rw [hchl] at HX
      refine s_callv 68 rfl rfl _ 35 Try.call35 rfl rfl _ rfl [.pointer (some ⟨rp, 0, none⟩), .int .i64 ((2 + h.u + j : Nat) : Int), .slice (cutA ao4 cap4 (j * 64)) ((rawW l).length - j * 64) (cap4 - j * 64)] rfl (HX) ?_
      intro w6 G
      replace kmp := G.has kmp
      replace HR := HR.gro G
      replace HO := HO.gro G
      replace GG := GG.tg G
      clear G
      refine nr ?_; intro U h; simp only [z0, z1] at h; subst h
      clear HX
      refine s_val 9 rfl rfl (.int .i64 8) (rfl) ?_
      refine nr ?_; intro U h; simp only [z0, z1] at h; subst h
      refine wpList_nil ?_
      refine then_n ?_
      refine wp_seq ?_
      refine wp_region_lit ?_
      refine s_val 69 rfl rfl (.int .i64 8) (rfl) ?_
      refine nr ?_; intro U h; simp only [z0, z1] at h; subst h
      refine s_val 70 rfl rfl (.bool true) (run_neq_k 26 .i64 _ _ _ rfl Try.underlying26 _ _ rfl rfl true rfl _) ?_
      refine nr ?_; intro U h; simp only [z0, z1] at h; subst h
      refine wpList_nil ?_
      refine then_n ?_
      refine wp_cond_true rfl ?_
      refine wp_seq ?_
      refine wp_region_lit ?_
      refine s_val 71 rfl rfl (.pointer (some ⟨mp, 0, none⟩)) (rfl) ?_
      refine nr ?_; intro U h; simp only [z0, z1] at h; subst h
      refine s_val 72 rfl rfl (.pointer (some ⟨mp, 0, none⟩)) (run_nc _ rfl _ rfl) ?_
      refine nr ?_; intro U h; simp only [z0, z1] at h; subst h
      refine s_val 73 rfl rfl (.pointer (some ⟨mp, 4, none⟩)) (run_fld 79 _ 4 rfl _ _ rfl _ (by kernel_rfl)) ?_
      refine nr ?_; intro U h; simp only [z0, z1] at h; subst h
      refine s_store rfl rfl 4 _ _ rfl mp 4 rfl (.bool true) rfl 79 _ kmp #[.bool true] rfl (by kernel_rfl) (Nat.le_of_ble_eq_true rfl) (by kernel_rfl) (c79 (some ⟨rp, 0, none⟩) ((h.g : Nat) : Int) ((h.u : Nat) : Int) ((h.c : Nat) : Int) true) (by kernel_rfl) ?_
      intro w8 St
      replace HR := HR.stq St (by omega) (fun ad ha => by have := hlro ad ha; first | omega | exact hrn ad ha)
      replace HO := HO.apart St (fun ad ha => by have := (HO.ge ad ha).1; omega)
      replace GG := GG.st St (.inr (by simp))
      replace kmp := St.new
      clear St
      refine wpList_nil ?_
      refine then_n ?_
      refine wp_seq ?_
      refine wp_region_lit ?_
      refine s_val 74 rfl rfl (.int .i64 8) (rfl) ?_
      refine nr ?_; intro U h; simp only [z0, z1] at h; subst h
      refine s_val 4 rfl rfl (.int .i64 8) (rfl) ?_
      refine nr ?_; intro U h; simp only [z0, z1] at h; subst h
      refine wpList_nil ?_
      refine then_n ?_
      refine wp_ret ?_
      refine blk_r ?_
      refine then_r ?_
      refine then_r ?_
      refine blk_r ?_
      refine then_r ?_
      refine bodyPost_ret (results_tmp Try.results11 _ _ _) rfl ?_
      have hA := apF hpj hj h0
      unfold RApP apL apH
      rw [hA.1, hA.2.1, hA.2.2]
      subst h0
      exact ⟨_, rfl, GG, (by omega), (by omega), HR, ⟨kmp⟩⟩
    have HX := qwrite_go _ rp B ro rc n _ _ _ HR (cutA ao4 cap4 (j * 64)) (cap4 - j * 64) (((rawW l).drop (j * 64)).take 64) ⟨hnc, fun ad ha _ => by have h1 := (HO.ge _ (cut_some ha).choose_spec.1).1; have h2 := (cut_some ha).choose_spec.2; simp only [List.mem_cons, mem_blk, not_or]; exact ⟨by omega, fun ⟨a, h3, h4⟩ => by have := hlro a h3; omega⟩⟩ (2 + h.u + j) (by omega) (chunk_len l j) (hpj.may h0) (hpj.lt hP) (by omega) (by omega)
    rw [hchl] at HX
    refine s_callx 68 rfl rfl _ 35 Try.call35 rfl rfl _ rfl [.pointer (some ⟨rp, 0, none⟩), .int .i64 ((2 + h.u + j : Nat) : Int), .slice (cutA ao4 cap4 (j * 64)) ((rawW l).length - j * 64) (cap4 - j * 64)] rfl (HX) (fun _ _ ⟨he, _⟩ => ⟨_, he⟩) ?_
    rintro v w6 ⟨he, G, HR2⟩
    cases he
    rw [chunk_pad hjn, wr_more (by rw [recW_len, hLn]; omega) (by rw [recW_len]; omega), show dn + (j : Int) + 1 = dn + ((j + 1 : Nat) : Int) by omega] at HR2
    replace kmp := G.has kmp hmpS
    replace HO := HO.gros G (fun ad ha => by have := (HO.ge ad ha).1; simp only [List.mem_cons, mem_blk, not_or]; exact ⟨by omega, fun ⟨a, h3, h4⟩ => by have := hlro a h3; omega⟩)
    replace GG := GG.trans (G.mono hsub)
    clear G HR HX hnc
    have HR := HR2
    clear HR2
    refine nr ?_; intro U h; simp only [z0, z1] at h; subst h
    refine s_val 9 rfl rfl (.int .i64 0) (rfl) ?_
    refine nr ?_; intro U h; simp only [z0, z1] at h; subst h
    refine wpList_nil ?_
    refine then_n ?_
    refine wp_seq ?_
    refine wp_region_lit ?_
    refine s_val 69 rfl rfl (.int .i64 0) (rfl) ?_
    refine nr ?_; intro U h; simp only [z0, z1] at h; subst h
    refine s_val 70 rfl rfl (.bool false) (run_neq_k 26 .i64 _ _ _ rfl Try.underlying26 _ _ rfl rfl false rfl _) ?_
    refine nr ?_; intro U h; simp only [z0, z1] at h; subst h
    refine wpList_nil ?_
    refine then_n ?_
    refine wp_cond_false rfl ?_
    refine wp_skip ?_
    refine blk_n ?_
    refine then_n ?_
    refine wp_region_lit ?_
    refine s_val 45 rfl rfl (.int .i64 ((j : Nat) : Int)) (rfl) ?_
    refine nr ?_; intro U h; simp only [z0, z1] at h; subst h
    refine s_val 46 rfl rfl (.int .i64 ((j + 1 : Nat) : Int)) (run_add64 _ _ _ rfl ((j : Nat) : Int) 1 _ rfl rfl (by omega) (by omega) (by omega) _) ?_
    refine nr ?_; intro U h; simp only [z0, z1] at h; subst h
    refine s_val 7 rfl rfl (.int .i64 ((j + 1 : Nat) : Int)) (rfl) ?_
    refine nr ?_; intro U h; simp only [z0, z1] at h; subst h
    refine wpList_nil ?_
    refine then_n ?_
    exact ⟨_, (by omega : secN l.length - (j + 1) < secN l.length - j), j + 1, _, (fun kz => ([us1 0, .slice (cutA ao4 cap4 (j * 64)) ((rawW l).length - j * 64) (cap4 - j * 64), .int .i64 0, .int .i64 ((j : Nat) : Int), .int .i64 ((secN l.length : Nat) : Int), .bool true, .int .i64 ((j : Nat) : Int), .int .i64 ((j + 1 : Nat) : Int), .slice ao4 ((rawW l).length) cap4, .int .i64 ((j : Nat) : Int), .int .i64 ((j * 64 : Nat) : Int), .slice (cutA ao4 cap4 (j * 64)) ((rawW l).length - j * 64) (cap4 - j * 64), .slice (cutA ao4 cap4 (j * 64)) ((rawW l).length - j * 64) (cap4 - j * 64), .int .i64 (((rawW l).length - j * 64 : Nat) : Int), .bool false, us1 15, us1 16, .pointer (some ⟨mp, 0, none⟩), .pointer (some ⟨mp, 0, none⟩), .pointer (some ⟨mp, 0, none⟩), .pointer (some ⟨rp, 0, none⟩), .pointer (some ⟨mp, 0, none⟩), .pointer (some ⟨mp, 0, none⟩), .pointer (some ⟨mp, 2, none⟩), .int .i64 ((h.u : Nat) : Int), .int .i64 ((2 + h.u : Nat) : Int), .int .i64 ((j : Nat) : Int), .int .i64 ((2 + h.u + j : Nat) : Int), .slice (cutA ao4 cap4 (j * 64)) ((rawW l).length - j * 64) (cap4 - j * 64), .int .i64 0, .int .i64 0, .bool false, us1 32, us1 33, us1 34, us1 35] : List Value).getD kz undef), rfl, rfl, hjn, hpj.next h0, GG, kmp, HR, HO⟩
  have hlong : 64 < (rawW l).length - j * 64 := by have := of_decide_eq_true hp2; omega
  refine wpList_nil ?_
  refine then_n ?_
  refine wp_cond_true rfl ?_
  refine wp_region_lit ?_
  refine s_val 54 rfl rfl (.slice (cutA ao4 cap4 (j * 64)) ((rawW l).length - j * 64) (cap4 - j * 64)) (rfl) ?_
  refine nr ?_; intro U h; simp only [z0, z1] at h; subst h
  refine s_val 55 rfl rfl (.slice (cutA ao4 cap4 (j * 64)) 64 (cap4 - j * 64)) (run_cut0 bT _ _ rfl (cutA ao4 cap4 (j * 64)) ((rawW l).length - j * 64) (cap4 - j * 64) 64 rfl rfl (by have := HO.nc.fit; omega) _) ?_
  refine nr ?_; intro U h; simp only [z0, z1] at h; subst h
  refine s_val 8 rfl rfl (.slice (cutA ao4 cap4 (j * 64)) 64 (cap4 - j * 64)) (rfl) ?_
  refine nr ?_; intro U h; simp only [z0, z1] at h; subst h
  refine wpList_nil ?_
  refine then_n ?_
  refine wp_seq ?_
  refine wp_region_exA (A := ?Ax6) 12 [(0, 56), (1, 57), (2, 58), (3, 59), (4, 60), (5, 61), (6, 62), (7, 63), (8, 64), (9, 65), (10, 66), (11, 67)] [.val (.pointer (some ⟨mp, 0, none⟩)), .val (.pointer (some ⟨mp, 0, none⟩)), .val (.pointer (some ⟨mp, 0, none⟩)), .val (.pointer (some ⟨rp, 0, none⟩)), .val (.pointer (some ⟨mp, 0, none⟩)), .val (.pointer (some ⟨mp, 0, none⟩)), .val (.pointer (some ⟨mp, 2, none⟩)), .val (.int .i64 ((h.u : Nat) : Int)), .val (.int .i64 ((2 + h.u : Nat) : Int)), .val (.int .i64 ((j : Nat) : Int)), .val (.int .i64 ((2 + h.u + j : Nat) : Int)), .val (.slice (cutA ao4 cap4 (j * 64)) 64 (cap4 - j * 64))] follows (by kernel_rfl) rfl ?hAx6 (opsA_cons ?o0x6 (opsA_cons ?o1x6 (opsA_cons ?o2x6 (opsA_cons ?o3x6 (opsA_cons ?o4x6 (opsA_cons ?o5x6 (opsA_cons ?o6x6 (opsA_cons ?o7x6 (opsA_cons ?o8x6 (opsA_cons ?o9x6 (opsA_cons ?o10x6 (opsA_cons ?o11x6 opsA_nil)))))))))))) ?restx6
  case hAx6 =>
    intro ptrs
    simp only [full, foldSlots, filledE, postE, List.foldl_cons, List.foldl_nil, List.getD_cons_zero, List.getD_cons_succ, fill_val, List.set_cons_zero, List.set_cons_succ]
    exact rfl
  case o0x6 => exact fun _ _ _ _ => opE_move (v := .pointer (some ⟨mp, 0, none⟩)) _ rfl rfl rfl
  case o1x6 => exact fun _ _ hw _ => opE_value (v := .pointer (some ⟨mp, 0, none⟩)) rfl (run_nc _ rfl _ rfl)
  case o2x6 => exact fun _ _ hw _ => opE_value (v := .pointer (some ⟨mp, 0, none⟩)) rfl (run_fld 79 _ 0 rfl _ _ rfl _ (by kernel_rfl))
  case o3x6 => exact fun _ _ hw _ => opE_value (v := .pointer (some ⟨rp, 0, none⟩)) rfl (run_ldc 23 _ rfl mp 0 rfl 79 _ (hw.has kmp) (na23 _) _ rfl)
  case o4x6 => exact fun _ _ _ _ => opE_move (v := .pointer (some ⟨mp, 0, none⟩)) _ rfl rfl rfl
  case o5x6 => exact fun _ _ hw _ => opE_value (v := .pointer (some ⟨mp, 0, none⟩)) rfl (run_nc _ rfl _ rfl)
  case o6x6 => exact fun _ _ hw _ => opE_value (v := .pointer (some ⟨mp, 2, none⟩)) rfl (run_fld 79 _ 2 rfl _ _ rfl _ (by kernel_rfl))
  case o7x6 => exact fun _ _ hw _ => opE_value (v := .int .i64 ((h.u : Nat) : Int)) rfl (run_ldc 3 _ rfl mp 2 rfl 79 _ (hw.has kmp) (na3 _) _ rfl)
  case o8x6 => exact fun _ _ hw _ => opE_value (v := .int .i64 ((2 + h.u : Nat) : Int)) rfl (run_add64 _ _ _ rfl 2 ((h.u : Nat) : Int) _ rfl rfl (by omega) (by omega) (by omega) _)
  case o9x6 => exact fun _ _ _ _ => opE_move (v := .int .i64 ((j : Nat) : Int)) _ rfl rfl rfl
  case o10x6 => exact fun _ _ hw _ => opE_value (v := .int .i64 ((2 + h.u + j : Nat) : Int)) rfl (run_add64 _ _ _ rfl ((2 + h.u : Nat) : Int) ((j : Nat) : Int) _ rfl rfl (by omega) (by omega) (by omega) _)
  case o11x6 => exact fun _ _ _ _ => opE_move (v := .slice (cutA ao4 cap4 (j * 64)) 64 (cap4 - j * 64)) _ rfl rfl rfl
  intro ptrs w5 GD hxE
  simp only [List.drop_succ_cons, List.drop_zero]
  replace kmp := GD.has kmp
  replace HR := HR.gro ((Gro.refl _).drew.trans GD)
  replace HO := HO.gro ((Gro.refl _).drew.trans GD)
  replace GG := GG.drew.tg GD
  clear GD
  have hchl : (((rawW l).drop (j * 64)).take 64).length = 64 := by rw [List.length_take, List.length_drop, rawW_len]; rw [rawW_len] at hlong; omega
  have hnc : NC _ .u8 (cutA ao4 cap4 (j * 64)) (cap4 - j * 64) (((rawW l).drop (j * 64)).take 64) := HO.nc.cutS (j * 64) 64 (by rw [rawW_len]; omega) (by rw [rawW_len] at *; omega)
  by_cases h0 : pj = 0
  · have HX := qwrite_down _ rp B ro rc n _ _ _ HR h0 (cutA ao4 cap4 (j * 64)) (cap4 - j * 64) (((rawW l).drop (j * 64)).take 64) (2 + h.u + j) (by omega) (chunk_len l j)
    rw [hchl] at HX
    refine s_callv 68 rfl rfl _ 35 Try.call35 rfl rfl _ rfl [.pointer (some ⟨rp, 0, none⟩), .int .i64 ((2 + h.u + j : Nat) : Int), .slice (cutA ao4 cap4 (j * 64)) 64 (cap4 - j * 64)] rfl (HX) ?_
    intro w6 G
    replace kmp := G.has kmp
    replace HR := HR.gro G
    replace HO := HO.gro G
    replace GG := GG.tg G
    clear G
    refine nr ?_; intro U h; simp only [z0, z1] at h; subst h
    clear HX
    refine s_val 9 rfl rfl (.int .i64 8) (rfl) ?_
    refine nr ?_; intro U h; simp only [z0, z1] at h; subst h
    refine wpList_nil ?_
    refine then_n ?_
    refine wp_seq ?_
    refine wp_region_lit ?_
    refine s_val 69 rfl rfl (.int .i64 8) (rfl) ?_
    refine nr ?_; intro U h; simp only [z0, z1] at h; subst h
    refine s_val 70 rfl rfl (.bool true) (run_neq_k 26 .i64 _ _ _ rfl Try.underlying26 _ _ rfl rfl true rfl _) ?_
    refine nr ?_; intro U h; simp only [z0, z1] at h; subst h
    refine wpList_nil ?_
    refine then_n ?_
    refine wp_cond_true rfl ?_
    refine wp_seq ?_
    refine wp_region_lit ?_
    refine s_val 71 rfl rfl (.pointer (some ⟨mp, 0, none⟩)) (rfl) ?_
    refine nr ?_; intro U h; simp only [z0, z1] at h; subst h
    refine s_val 72 rfl rfl (.pointer (some ⟨mp, 0, none⟩)) (run_nc _ rfl _ rfl) ?_
    refine nr ?_; intro U h; simp only [z0, z1] at h; subst h
    refine s_val 73 rfl rfl (.pointer (some ⟨mp, 4, none⟩)) (run_fld 79 _ 4 rfl _ _ rfl _ (by kernel_rfl)) ?_
    refine nr ?_; intro U h; simp only [z0, z1] at h; subst h
    refine s_store rfl rfl 4 _ _ rfl mp 4 rfl (.bool true) rfl 79 _ kmp #[.bool true] rfl (by kernel_rfl) (Nat.le_of_ble_eq_true rfl) (by kernel_rfl) (c79 (some ⟨rp, 0, none⟩) ((h.g : Nat) : Int) ((h.u : Nat) : Int) ((h.c : Nat) : Int) true) (by kernel_rfl) ?_
    intro w8 St
    replace HR := HR.stq St (by omega) (fun ad ha => by have := hlro ad ha; first | omega | exact hrn ad ha)
    replace HO := HO.apart St (fun ad ha => by have := (HO.ge ad ha).1; omega)
    replace GG := GG.st St (.inr (by simp))
    replace kmp := St.new
    clear St
    refine wpList_nil ?_
    refine then_n ?_
    refine wp_seq ?_
    refine wp_region_lit ?_
    refine s_val 74 rfl rfl (.int .i64 8) (rfl) ?_
    refine nr ?_; intro U h; simp only [z0, z1] at h; subst h
    refine s_val 4 rfl rfl (.int .i64 8) (rfl) ?_
    refine nr ?_; intro U h; simp only [z0, z1] at h; subst h
    refine wpList_nil ?_
    refine then_n ?_
    refine wp_ret ?_
    refine blk_r ?_
    refine then_r ?_
    refine then_r ?_
    refine blk_r ?_
    refine then_r ?_
    refine bodyPost_ret (results_tmp Try.results11 _ _ _) rfl ?_
    have hA := apF hpj hj h0
    unfold RApP apL apH
    rw [hA.1, hA.2.1, hA.2.2]
    subst h0
    exact ⟨_, rfl, GG, (by omega), (by omega), HR, ⟨kmp⟩⟩
  have HX := qwrite_go _ rp B ro rc n _ _ _ HR (cutA ao4 cap4 (j * 64)) (cap4 - j * 64) (((rawW l).drop (j * 64)).take 64) ⟨hnc, fun ad ha _ => by have h1 := (HO.ge _ (cut_some ha).choose_spec.1).1; have h2 := (cut_some ha).choose_spec.2; simp only [List.mem_cons, mem_blk, not_or]; exact ⟨by omega, fun ⟨a, h3, h4⟩ => by have := hlro a h3; omega⟩⟩ (2 + h.u + j) (by omega) (chunk_len l j) (hpj.may h0) (hpj.lt hP) (by omega) (by omega)
  rw [hchl] at HX
  refine s_callx 68 rfl rfl _ 35 Try.call35 rfl rfl _ rfl [.pointer (some ⟨rp, 0, none⟩), .int .i64 ((2 + h.u + j : Nat) : Int), .slice (cutA ao4 cap4 (j * 64)) 64 (cap4 - j * 64)] rfl (HX) (fun _ _ ⟨he, _⟩ => ⟨_, he⟩) ?_
  rintro v w6 ⟨he, G, HR2⟩
  cases he
  rw [chunk_pad hjn, wr_more (by rw [recW_len, hLn]; omega) (by rw [recW_len]; omega), show dn + (j : Int) + 1 = dn + ((j + 1 : Nat) : Int) by omega] at HR2
  replace kmp := G.has kmp hmpS
  replace HO := HO.gros G (fun ad ha => by have := (HO.ge ad ha).1; simp only [List.mem_cons, mem_blk, not_or]; exact ⟨by omega, fun ⟨a, h3, h4⟩ => by have := hlro a h3; omega⟩)
  replace GG := GG.trans (G.mono hsub)
  clear G HR HX hnc
  have HR := HR2
  clear HR2
  refine nr ?_; intro U h; simp only [z0, z1] at h; subst h
  refine s_val 9 rfl rfl (.int .i64 0) (rfl) ?_
  refine nr ?_; intro U h; simp only [z0, z1] at h; subst h
  refine wpList_nil ?_
  refine then_n ?_
  refine wp_seq ?_
  refine wp_region_lit ?_
  refine s_val 69 rfl rfl (.int .i64 0) (rfl) ?_
  refine nr ?_; intro U h; simp only [z0, z1] at h; subst h
  refine s_val 70 rfl rfl (.bool false) (run_neq_k 26 .i64 _ _ _ rfl Try.underlying26 _ _ rfl rfl false rfl _) ?_
  refine nr ?_; intro U h; simp only [z0, z1] at h; subst h
  refine wpList_nil ?_
  refine then_n ?_
  refine wp_cond_false rfl ?_
  refine wp_skip ?_
  refine blk_n ?_
  refine then_n ?_
  refine wp_region_lit ?_
  refine s_val 45 rfl rfl (.int .i64 ((j : Nat) : Int)) (rfl) ?_
  refine nr ?_; intro U h; simp only [z0, z1] at h; subst h
  refine s_val 46 rfl rfl (.int .i64 ((j + 1 : Nat) : Int)) (run_add64 _ _ _ rfl ((j : Nat) : Int) 1 _ rfl rfl (by omega) (by omega) (by omega) _) ?_
  refine nr ?_; intro U h; simp only [z0, z1] at h; subst h
  refine s_val 7 rfl rfl (.int .i64 ((j + 1 : Nat) : Int)) (rfl) ?_
  refine nr ?_; intro U h; simp only [z0, z1] at h; subst h
  refine wpList_nil ?_
  refine then_n ?_
  exact ⟨_, (by omega : secN l.length - (j + 1) < secN l.length - j), j + 1, _, (fun kz => ([us1 0, .slice (cutA ao4 cap4 (j * 64)) 64 (cap4 - j * 64), .int .i64 0, .int .i64 ((j : Nat) : Int), .int .i64 ((secN l.length : Nat) : Int), .bool true, .int .i64 ((j : Nat) : Int), .int .i64 ((j + 1 : Nat) : Int), .slice ao4 ((rawW l).length) cap4, .int .i64 ((j : Nat) : Int), .int .i64 ((j * 64 : Nat) : Int), .slice (cutA ao4 cap4 (j * 64)) ((rawW l).length - j * 64) (cap4 - j * 64), .slice (cutA ao4 cap4 (j * 64)) ((rawW l).length - j * 64) (cap4 - j * 64), .int .i64 (((rawW l).length - j * 64 : Nat) : Int), .bool true, .slice (cutA ao4 cap4 (j * 64)) ((rawW l).length - j * 64) (cap4 - j * 64), .slice (cutA ao4 cap4 (j * 64)) 64 (cap4 - j * 64), .pointer (some ⟨mp, 0, none⟩), .pointer (some ⟨mp, 0, none⟩), .pointer (some ⟨mp, 0, none⟩), .pointer (some ⟨rp, 0, none⟩), .pointer (some ⟨mp, 0, none⟩), .pointer (some ⟨mp, 0, none⟩), .pointer (some ⟨mp, 2, none⟩), .int .i64 ((h.u : Nat) : Int), .int .i64 ((2 + h.u : Nat) : Int), .int .i64 ((j : Nat) : Int), .int .i64 ((2 + h.u + j : Nat) : Int), .slice (cutA ao4 cap4 (j * 64)) 64 (cap4 - j * 64), .int .i64 0, .int .i64 0, .bool false, us1 32, us1 33, us1 34, us1 35] : List Value).getD kz undef), rfl, rfl, hjn, hpj.next h0, GG, kmp, HR, HO⟩
end Go.Proofs.Ytgfnjekpafempaa
