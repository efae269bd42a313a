import Derived.Test.YtgfnjekpafempaaGreatBB7
namespace Go.Proofs.YtgfnjekpafempaaGreat
open Go.Proofs.Tryz
open Go.RowKit
section
variable {P : Program} {o : Oper} {A : Act}
theorem YK (r : Nat) (h : r < lim) : IntKind.u64.wrap (r : Int) = (r : Int) := by
  unfold lim at h
  simp [IntKind.wrap, IntKind.bits, IntKind.signed]
  omega
theorem VT (t t2 : TypeId) (x y : Operand) (ho : o.op = .binOp .mul t x y t2) (a b : Nat) (hx : A.eval x = .int .u64 (a : Int)) (hy : A.eval y = .int .u64 (b : Int)) (r : Nat) (hr : a * b = r) (h : r < lim) (w : World) : (execOp A.eval o).run P w = .ok (.value (.int .u64 (r : Int))) w := by
  refine jF .mul t x y t2 ho _ _ _ hx hy (by simp [eqGuard]) ?_
  subst hr
  have := YK _ h
  simp [binOp, Op.intArith]
  simpa using this
theorem Uc (t t2 : TypeId) (x y : Operand) (ho : o.op = .binOp .add t x y t2) (a b : Nat) (hx : A.eval x = .int .u64 (a : Int)) (hy : A.eval y = .int .u64 (b : Int)) (r : Nat) (hr : a + b = r) (h : r < lim) (w : World) : (execOp A.eval o).run P w = .ok (.value (.int .u64 (r : Int))) w := by
  refine jF .add t x y t2 ho _ _ _ hx hy (by simp [eqGuard]) ?_
  subst hr
  have := YK _ h
  simp [binOp, Op.intArith]
  simpa using this
end
set_option maxHeartbeats 1600000 in
theorem yr (ao : Option Addr) (cap : Nat) (l : List Nat) (w : World) (HC : NC w .u8 ao cap l) (i : Int) (hlen : l.length < 9223372036854775807) : Calls Tryz.prog 75 #[.slice ao l.length cap, .int .i64 i] w (NumP w (getE l i)) := by
  obtain ⟨R, hR⟩ : ∃ R, getE l i = R := ⟨_, rfl⟩
  have HR : Shut (getE l i = R) := ⟨hR⟩
  rw [hR]
  clear hR
  cases hw : decide (i < 0)
  · cases hw2 : decide ((l.length : Int) < i)
    · have h1 : ¬ i < 0 := by simpa using hw
      have h2 : ¬ (l.length : Int) < i := by simpa using hw2
      obtain ⟨p, rfl⟩ : ∃ p : Nat, i = (p : Int) := ⟨i.toNat, by omega⟩
      have hp : p ≤ l.length := by omega
      have HR2 : Shut (getR p (l.drop p) = R) := ⟨by rw [← HR.out, getE, if_neg (by omega)]; rfl⟩
      clear HR h1 h2
      obtain ⟨ao1, cap1, L1, E1, N1, C1⟩ := HC.cut bT p hp
      rw [← E1.out] at HR2
      have hL1 : L1.length = l.length - p := by rw [E1.out, List.length_drop]
      clear E1
      cases L1 with
      | nil =>
        have hR : R = (0, 0, 3) := HR2.out.symm
        subst hR
        clear HR2
        go_enter func75, ntmps75
        go_wp2_with (first | (with_reducible refine jx ?_; (first | (refine jc 12 rfl rfl (.bool false) (jI _ _ _ rfl (p : Int) 0 rfl rfl false hw _) ?_) | (refine ju 17 rfl rfl (.bool false) (jY _ _ _ rfl (p : Int) (l.length : Int) rfl rfl false hw2 _) ?_) | (refine jc 21 rfl rfl (.slice ao1 0 cap1) (C1.run _ _ rfl rfl rfl _) ?_)); (try simp only [Act.put, List.setIfInBounds_toArray, List.set_cons_zero, List.set_cons_succ])))
        go_ret3
        exact ⟨rfl, rfl⟩
      | cons k L2 =>
        have hql : L2.length + 1 = l.length - p := by simpa using hL1
        have hlt1 := N1.lt256
        have hk256 : k < 256 := hlt1 k (by simp)
        have Hq : Shut (∀ x ∈ L2, x < 256) := ⟨fun x hx => hlt1 x (by simp [hx])⟩
        clear hlt1
        obtain ⟨ad1, rfl, hc1⟩ := N1.at (j := 0) (by simp)
        replace hc1 : Shut (w.cell? (ad1.add 0) = some (.int .u8 (k : Int))) := ⟨hc1⟩
        have HCJ : Shut (∀ j, j < L2.length → w.cell? (ad1.add (j + 1)) = some (.int .u8 (L2.getD j 0 : Int))) := ⟨fun j hj => N1.cell ad1 rfl (j + 1) (by simp; omega)⟩
        clear N1
        have HQ : Shut (L2.length + 1 = l.length - p) := ⟨hql⟩
        clear hql hL1
        by_cases h8 : 8 < k
        · have hR : R = (0, 0, 2) := by rw [← HR2.out, getR, if_pos h8]
          subst hR
          clear HR2
          go_enter func75, ntmps75
          go_wp2_with (first | (with_reducible refine jx ?_; (first | (refine jc 12 rfl rfl (.bool false) (jI _ _ _ rfl (p : Int) 0 rfl rfl false hw _) ?_) | (refine ju 17 rfl rfl (.bool false) (jY _ _ _ rfl (p : Int) (l.length : Int) rfl rfl false hw2 _) ?_) | (refine jc 21 rfl rfl (.slice (some ad1) (L2.length + 1) cap1) (C1.run _ _ rfl rfl rfl _) ?_) | (refine jc 24 rfl rfl (.bool false) (jw 3 .i64 _ _ _ rfl underlying3 ((L2.length + 1 : Nat) : Int) 0 rfl rfl false (by simp; omega) _) ?_) | (refine jc 26 rfl rfl (.pointer (some (ad1.add 0))) (zf bT _ _ rfl ad1 (L2.length + 1) cap1 0 rfl rfl (by omega) _) ?_) | (refine jc 27 rfl rfl (.int .u8 (k : Int)) (zj bT _ rfl (ad1.add 0) rfl _ _ hc1.out) ?_) | (refine jc 28 rfl rfl (.int .i64 (k : Int)) (conv53 _ rfl k hk256 rfl _) ?_) | (refine jc 30 rfl rfl (.bool true) (jY _ _ _ rfl (k : Int) 8 rfl rfl true (by simp; omega) _) ?_)); (try simp only [Act.put, List.setIfInBounds_toArray, List.set_cons_zero, List.set_cons_succ])))
          go_ret3
          exact ⟨rfl, rfl⟩
        · have h8' : k ≤ 8 := by omega
          clear h8
          by_cases hsh : L2.length < k
          · have hR : R = (0, 0, 3) := by rw [← HR2.out, getR, if_neg (by omega), if_pos hsh]
            subst hR
            clear HR2
            go_enter func75, ntmps75
            go_wp2_with (first | (with_reducible refine jx ?_; (first | (refine jc 12 rfl rfl (.bool false) (jI _ _ _ rfl (p : Int) 0 rfl rfl false hw _) ?_) | (refine ju 17 rfl rfl (.bool false) (jY _ _ _ rfl (p : Int) (l.length : Int) rfl rfl false hw2 _) ?_) | (refine jc 21 rfl rfl (.slice (some ad1) (L2.length + 1) cap1) (C1.run _ _ rfl rfl rfl _) ?_) | (refine jc 24 rfl rfl (.bool false) (jw 3 .i64 _ _ _ rfl underlying3 ((L2.length + 1 : Nat) : Int) 0 rfl rfl false (by simp; omega) _) ?_) | (refine jc 26 rfl rfl (.pointer (some (ad1.add 0))) (zf bT _ _ rfl ad1 (L2.length + 1) cap1 0 rfl rfl (by omega) _) ?_) | (refine jc 27 rfl rfl (.int .u8 (k : Int)) (zj bT _ rfl (ad1.add 0) rfl _ _ hc1.out) ?_) | (refine jc 28 rfl rfl (.int .i64 (k : Int)) (conv53 _ rfl k hk256 rfl _) ?_) | (refine jc 30 rfl rfl (.bool false) (jY _ _ _ rfl (k : Int) 8 rfl rfl false (by simp; omega) _) ?_) | (refine jc 34 rfl rfl (.bool true) (zW _ _ _ rfl ((L2.length + 1 : Nat) : Int) (k : Int) rfl rfl true (by simp; omega) _) ?_)); (try simp only [Act.put, List.setIfInBounds_toArray, List.set_cons_zero, List.set_cons_succ])))
            go_ret3
            exact ⟨rfl, rfl⟩
          · have hkl : k ≤ L2.length := by omega
            clear hsh
            by_cases hk0 : k = 0
            · have hR : R = (0, p + 1, 0) := by rw [← HR2.out, getR, if_neg (by omega), if_neg (by omega), if_neg (by omega), hk0]; rfl
              subst hR
              subst hk0
              have hpp : p + 1 ≤ l.length := by have := HQ.out; omega
              clear HR2 Hq HQ HCJ
              go_enter func75, ntmps75
              go_wp2_with (first | (with_reducible refine jx ?_; (first | (refine jc 12 rfl rfl (.bool false) (jI _ _ _ rfl (p : Int) 0 rfl rfl false hw _) ?_) | (refine ju 17 rfl rfl (.bool false) (jY _ _ _ rfl (p : Int) (l.length : Int) rfl rfl false hw2 _) ?_) | (refine jc 21 rfl rfl (.slice (some ad1) (L2.length + 1) cap1) (C1.run _ _ rfl rfl rfl _) ?_) | (refine jc 24 rfl rfl (.bool false) (jw 3 .i64 _ _ _ rfl underlying3 ((L2.length + 1 : Nat) : Int) 0 rfl rfl false (by simp; omega) _) ?_) | (refine jc 26 rfl rfl (.pointer (some (ad1.add 0))) (zf bT _ _ rfl ad1 (L2.length + 1) cap1 0 rfl rfl (by omega) _) ?_) | (refine jc 27 rfl rfl (.int .u8 ((0 : Nat) : Int)) (zj bT _ rfl (ad1.add 0) rfl _ _ hc1.out) ?_) | (refine jc 28 rfl rfl (.int .i64 ((0 : Nat) : Int)) (conv53 _ rfl 0 hk256 rfl _) ?_) | (refine jc 30 rfl rfl (.bool false) (jY _ _ _ rfl ((0 : Nat) : Int) 8 rfl rfl false (by decide) _) ?_) | (refine jc 34 rfl rfl (.bool false) (zW _ _ _ rfl ((L2.length + 1 : Nat) : Int) ((0 : Nat) : Int) rfl rfl false (by simp; omega) _) ?_)); (try simp only [Act.put, List.setIfInBounds_toArray, List.set_cons_zero, List.set_cons_succ])))
              go_loopw [9, 10] (fun x i wr => x = .int .u64 0 ∧ i = .int .i64 1 ∧ wr = w) (fun _ _ _ => 0)
              case atStart => exact ⟨rfl, rfl, rfl⟩
              case round =>
                rename_i wr
                obtain ⟨rfl, rfl, hwr⟩ := hrel
                replace hwr := hwr.symm
                subst hwr
                go_wp2_with (first | (with_reducible refine jx ?_; (first | (refine jc 37 rfl rfl (.bool false) (zW _ _ _ rfl 1 ((0 : Nat) : Int) rfl rfl false (by decide) _) ?_) | (refine jc 59 rfl rfl (.int .i64 (p : Int)) (jp _ _ _ rfl (p : Int) ((0 : Nat) : Int) _ rfl rfl (by omega) (by omega) (by omega) _) ?_) | (refine jc 60 rfl rfl (.int .i64 ((p + 1 : Nat) : Int)) (jp _ _ _ rfl (p : Int) 1 _ rfl rfl (by omega) (by omega) (by omega) _) ?_)); (try simp only [Act.put, List.setIfInBounds_toArray, List.set_cons_zero, List.set_cons_succ])))
                go_ret3
                exact ⟨rfl, rfl⟩
            · have hc2 := HCJ.out 0 (by omega)
              have hh : L2.headD 0 = L2.getD 0 0 := by cases L2 <;> rfl
              obtain ⟨y, hy⟩ : ∃ y, L2.getD 0 0 = y := ⟨_, rfl⟩
              rw [hy] at hh hc2
              replace hc2 : Shut (w.cell? (ad1.add 1) = _) := ⟨hc2⟩
              have HH : Shut _ := ⟨hh⟩
              clear hh hy
              by_cases hy0 : y = 0
              · have hR : R = (0, 0, 2) := by rw [← HR2.out, getR, if_neg (by omega), if_neg (by omega), if_pos ⟨by omega, by rw [HH.out, hy0]⟩]
                subst hR
                subst hy0
                clear HR2
                go_enter func75, ntmps75
                go_wp2_with (first | (with_reducible refine jx ?_; (first | (refine jc 12 rfl rfl (.bool false) (jI _ _ _ rfl (p : Int) 0 rfl rfl false hw _) ?_) | (refine ju 17 rfl rfl (.bool false) (jY _ _ _ rfl (p : Int) (l.length : Int) rfl rfl false hw2 _) ?_) | (refine jc 21 rfl rfl (.slice (some ad1) (L2.length + 1) cap1) (C1.run _ _ rfl rfl rfl _) ?_) | (refine jc 24 rfl rfl (.bool false) (jw 3 .i64 _ _ _ rfl underlying3 ((L2.length + 1 : Nat) : Int) 0 rfl rfl false (by simp; omega) _) ?_) | (refine jc 26 rfl rfl (.pointer (some (ad1.add 0))) (zf bT _ _ rfl ad1 (L2.length + 1) cap1 0 rfl rfl (by omega) _) ?_) | (refine jc 27 rfl rfl (.int .u8 (k : Int)) (zj bT _ rfl (ad1.add 0) rfl _ _ hc1.out) ?_) | (refine jc 28 rfl rfl (.int .i64 (k : Int)) (conv53 _ rfl k hk256 rfl _) ?_) | (refine jc 30 rfl rfl (.bool false) (jY _ _ _ rfl (k : Int) 8 rfl rfl false (by simp; omega) _) ?_) | (refine jc 34 rfl rfl (.bool false) (zW _ _ _ rfl ((L2.length + 1 : Nat) : Int) (k : Int) rfl rfl false (by simp; omega) _) ?_)); (try simp only [Act.put, List.setIfInBounds_toArray, List.set_cons_zero, List.set_cons_succ])))
                go_loopw [9, 10] (fun x i wr => x = .int .u64 0 ∧ i = .int .i64 1 ∧ wr = w) (fun _ _ _ => 0)
                case atStart => exact ⟨rfl, rfl, rfl⟩
                case round =>
                  rename_i wr
                  obtain ⟨rfl, rfl, hwr⟩ := hrel
                  replace hwr := hwr.symm
                  subst hwr
                  go_wp2_with (first | (with_reducible refine jx ?_; (first | (refine jc 37 rfl rfl (.bool true) (zW _ _ _ rfl 1 (k : Int) rfl rfl true (by simp; omega) _) ?_) | (refine jc 41 rfl rfl (.bool true) (jw 3 .i64 _ _ _ rfl underlying3 1 1 rfl rfl true (by decide) _) ?_) | (refine ju 44 rfl rfl (.pointer (some (ad1.add 1))) (zf bT _ _ rfl ad1 (L2.length + 1) cap1 1 rfl rfl (by omega) _) ?_) | (refine ju 45 rfl rfl (.int .u8 ((0 : Nat) : Int)) (zj bT _ rfl (ad1.add 1) rfl _ _ hc2.out) ?_)); (try simp only [Act.put, List.setIfInBounds_toArray, List.set_cons_zero, List.set_cons_succ])))
                  go_ret3
                  exact ⟨rfl, rfl⟩
              · have hR : R = (valL (L2.take k), p + 1 + k, 0) := by
                  rw [← HR2.out, getR, if_neg (by omega), if_neg (by omega), if_neg]
                  rw [HH.out]
                  omega
                have HR3 : Shut _ := ⟨hR⟩
                have hpp : p + 1 + k ≤ l.length := by have := HQ.out; omega
                clear HR2 HQ hR
                go_enter func75, ntmps75
                go_wp2_with (first | (with_reducible refine jx ?_; (first | (refine jc 12 rfl rfl (.bool false) (jI _ _ _ rfl (p : Int) 0 rfl rfl false hw _) ?_) | (refine ju 17 rfl rfl (.bool false) (jY _ _ _ rfl (p : Int) (l.length : Int) rfl rfl false hw2 _) ?_) | (refine jc 21 rfl rfl (.slice (some ad1) (L2.length + 1) cap1) (C1.run _ _ rfl rfl rfl _) ?_) | (refine jc 24 rfl rfl (.bool false) (jw 3 .i64 _ _ _ rfl underlying3 ((L2.length + 1 : Nat) : Int) 0 rfl rfl false (by simp; omega) _) ?_) | (refine jc 26 rfl rfl (.pointer (some (ad1.add 0))) (zf bT _ _ rfl ad1 (L2.length + 1) cap1 0 rfl rfl (by omega) _) ?_) | (refine jc 27 rfl rfl (.int .u8 (k : Int)) (zj bT _ rfl (ad1.add 0) rfl _ _ hc1.out) ?_) | (refine jc 28 rfl rfl (.int .i64 (k : Int)) (conv53 _ rfl k hk256 rfl _) ?_) | (refine jc 30 rfl rfl (.bool false) (jY _ _ _ rfl (k : Int) 8 rfl rfl false (by simp; omega) _) ?_) | (refine jc 34 rfl rfl (.bool false) (zW _ _ _ rfl ((L2.length + 1 : Nat) : Int) (k : Int) rfl rfl false (by simp; omega) _) ?_)); (try simp only [Act.put, List.setIfInBounds_toArray, List.set_cons_zero, List.set_cons_succ])))
                go_loopw [9, 10] (fun x i wr => ∃ j : Nat, j ≤ k ∧ x = .int .u64 (valL (L2.take j) : Int) ∧ i = .int .i64 ((j + 1 : Nat) : Int) ∧ wr = w) (fun _ i _ => k + 1 - (intOf i).toNat)
                case atStart => exact ⟨0, by omega, rfl, rfl, rfl⟩
                case round =>
                  rename_i wr
                  obtain ⟨j, hj, rfl, rfl, hwr⟩ := hrel
                  replace hwr := hwr.symm
                  subst hwr
                  by_cases hlt : j = k
                  · subst hlt
                    go_wp2_with (first | (with_reducible refine jx ?_; (first | (refine jc 37 rfl rfl (.bool false) (zW _ _ _ rfl ((j + 1 : Nat) : Int) (j : Int) rfl rfl false (by simp; omega) _) ?_) | (refine jc 59 rfl rfl (.int .i64 ((p + j : Nat) : Int)) (jp _ _ _ rfl (p : Int) (j : Int) _ rfl rfl (by omega) (by omega) (by omega) _) ?_) | (refine jc 60 rfl rfl (.int .i64 ((p + 1 + j : Nat) : Int)) (jp _ _ _ rfl ((p + j : Nat) : Int) 1 _ rfl rfl (by omega) (by omega) (by omega) _) ?_)); (try simp only [Act.put, List.setIfInBounds_toArray, List.set_cons_zero, List.set_cons_succ])))
                    go_ret3
                    exact ⟨by rw [HR3.out]; rfl, rfl⟩
                  · have hjk : j < k := by omega
                    have HS : Shut _ := ⟨un L2 j (by omega)⟩
                    have hsm := yp L2 Hq.out j (by omega) (by omega)
                    have hcj := HCJ.out j (by omega)
                    have hz := Hq.out _ (uJ L2 0 j (by omega))
                    obtain ⟨z, hz'⟩ : ∃ z, L2.getD j 0 = z := ⟨_, rfl⟩
                    rw [hz'] at HS hcj hz
                    clear hz'
                    replace hcj : Shut _ := ⟨hcj⟩
                    obtain ⟨x, hx⟩ : ∃ x, valL (L2.take j) = x := ⟨_, rfl⟩
                    rw [hx] at HS hsm ⊢
                    clear hx
                    by_cases hj0 : j = 0
                    · subst hj0
                      go_wp2_with (first | (with_reducible refine jx ?_; (first | (refine jc 37 rfl rfl (.bool true) (zW _ _ _ rfl ((0 + 1 : Nat) : Int) (k : Int) rfl rfl true (by simp; omega) _) ?_) | (refine jc 41 rfl rfl (.bool true) (jw 3 .i64 _ _ _ rfl underlying3 ((0 + 1 : Nat) : Int) 1 rfl rfl true (by decide) _) ?_) | (refine ju 44 rfl rfl (.pointer (some (ad1.add 1))) (zf bT _ _ rfl ad1 (L2.length + 1) cap1 1 rfl rfl (by omega) _) ?_) | (refine ju 45 rfl rfl (.int .u8 (y : Int)) (zj bT _ rfl (ad1.add 1) rfl _ _ hc2.out) ?_) | (refine ju 46 rfl rfl (.bool false) (jw 5 .u8 _ _ _ rfl underlying5 (y : Int) 0 rfl rfl false (by simp; omega) _) ?_) | (refine jc 49 rfl rfl (.int .u64 ((x * 256 : Nat) : Int)) (VT _ _ _ _ rfl x 256 rfl rfl _ rfl (by unfold lim; omega) _) ?_) | (refine jc 52 rfl rfl (.pointer (some (ad1.add (0 + 1)))) (zf bT _ _ rfl ad1 (L2.length + 1) cap1 (0 + 1) rfl rfl (by omega) _) ?_) | (refine jc 53 rfl rfl (.int .u8 (z : Int)) (zj bT _ rfl (ad1.add (0 + 1)) rfl _ _ hcj.out) ?_) | (refine jc 54 rfl rfl (.int .u64 (z : Int)) (conv525 _ rfl z hz rfl _) ?_) | (refine jc 55 rfl rfl (.int .u64 ((x * 256 + z : Nat) : Int)) (Uc _ _ _ _ rfl (x * 256) z rfl rfl _ rfl (by unfold lim; omega) _) ?_)); (try simp only [Act.put, List.setIfInBounds_toArray, List.set_cons_zero, List.set_cons_succ])))
                      go_light
                      go_roundw
                      case rel => exact ⟨1, by omega, by rw [HS.out], by go_num, by trivial⟩
                      case measure => simp [intOf]; omega
                    · go_wp2_with (first | (with_reducible refine jx ?_; (first | (refine jc 37 rfl rfl (.bool true) (zW _ _ _ rfl ((j + 1 : Nat) : Int) (k : Int) rfl rfl true (by simp; omega) _) ?_) | (refine jc 41 rfl rfl (.bool false) (jw 3 .i64 _ _ _ rfl underlying3 ((j + 1 : Nat) : Int) 1 rfl rfl false (by simp; omega) _) ?_) | (refine jc 49 rfl rfl (.int .u64 ((x * 256 : Nat) : Int)) (VT _ _ _ _ rfl x 256 rfl rfl _ rfl (by unfold lim; omega) _) ?_) | (refine jc 52 rfl rfl (.pointer (some (ad1.add (j + 1)))) (zf bT _ _ rfl ad1 (L2.length + 1) cap1 (j + 1) rfl rfl (by omega) _) ?_) | (refine jc 53 rfl rfl (.int .u8 (z : Int)) (zj bT _ rfl (ad1.add (j + 1)) rfl _ _ hcj.out) ?_) | (refine jc 54 rfl rfl (.int .u64 (z : Int)) (conv525 _ rfl z hz rfl _) ?_) | (refine jc 55 rfl rfl (.int .u64 ((x * 256 + z : Nat) : Int)) (Uc _ _ _ _ rfl (x * 256) z rfl rfl _ rfl (by unfold lim; omega) _) ?_)); (try simp only [Act.put, List.setIfInBounds_toArray, List.set_cons_zero, List.set_cons_succ])))
                      go_light
                      go_roundw
                      case rel => exact ⟨j + 1, by omega, by rw [HS.out], by go_num, by trivial⟩
                      case measure => simp [intOf]; omega
    · have hR : R = (0, 0, 1) := by
        rw [← HR.out, getE, if_pos]
        simp at hw2
        omega
      subst hR
      go_enter func75, ntmps75
      go_wp2_with (first | (with_reducible refine jx ?_; (first | (refine jc 12 rfl rfl (.bool false) (jI _ _ _ rfl i 0 rfl rfl false hw _) ?_) | (refine ju 17 rfl rfl (.bool true) (jY _ _ _ rfl i (l.length : Int) rfl rfl true hw2 _) ?_)); (try simp only [Act.put, List.setIfInBounds_toArray, List.set_cons_zero, List.set_cons_succ])))
      go_ret3
      exact ⟨rfl, rfl⟩
  · have hR : R = (0, 0, 1) := by
      rw [← HR.out, getE, if_pos]
      simp at hw
      omega
    subst hR
    go_enter func75, ntmps75
    go_wp2_with (first | (with_reducible refine jx ?_; first | (refine jc 12 rfl rfl (.bool true) (jI _ _ _ rfl i 0 rfl rfl true hw _) ?_; (try simp only [Act.put, List.setIfInBounds_toArray, List.set_cons_zero, List.set_cons_succ]))))
    go_ret3
    exact ⟨rfl, rfl⟩
end Go.Proofs.YtgfnjekpafempaaGreat
