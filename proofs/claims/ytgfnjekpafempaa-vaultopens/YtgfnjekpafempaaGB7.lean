/- Wire: GetNum is the document's. -/
import Derived.Test.YtgfnjekpafempaaGB6
namespace Go.Proofs.Ytgfnjekpafempaa
open Go.RowKit
theorem jv {P : Program} {ops : Array Oper} {rest : List Oper} {o : Oper} {a : Act} {w : World} {Q : Exit → Act → World → Prop} (dst : Nat) (hd : o.dst = some dst) (hw : Region.wanted o (yielded ops a.tmps) = true) (v : Value) (he : (execOp a.eval o).run P w = .ok (.value v) w)
    (h : wpList P ops Q rest (a.put (some dst) v) w) : wpList P ops Q (o :: rest) a w := by
  unfold wpList
  rw [if_pos hw]
  refine Or.inl ?_
  unfold Oper.wp
  rw [he, Oper.upon_value, hd]
  exact h
theorem vY (l : List Nat) (k : Nat) (h : k < l.length) : valL (l.take (k + 1)) = valL (l.take k) * 256 + l.getD k 0 := by
  rw [yu l 0 k h, yY]
theorem yl (q : List Nat) (hq : ∀ x ∈ q, x < 256) (j : Nat) (hj : j ≤ q.length) (h7 : j < 8) : valL (q.take j) < 72057594037927936 := by
  have := vZ j (q.take j) (by rw [List.length_take]; omega) fun x hx => hq x (List.mem_of_mem_take hx)
  have h2 : (256 : Nat) ^ j ≤ 256 ^ 7 := Nat.pow_le_pow_right (by decide) (by omega)
  have h3 : (256 : Nat) ^ 7 = 72057594037927936 := by decide
  omega
def NumP (w : World) (r : Nat × Nat × Nat) (e : Ending) (w' : World) : Prop := e = .returned (.tuple #[.int .u64 (r.1 : Int), .int .i64 (r.2.1 : Int), .int .i64 (r.2.2 : Int)]) ∧ w' = w
set_option maxHeartbeats 1600000 in
theorem yo (ao : Option Addr) (cap : Nat) (l : List Nat) (w : World) (HC : NC w .u8 ao cap l) (i : Int) (hlen : l.length < 9223372036854775807) : Calls Try.prog 61 #[.slice ao l.length cap, .int .i64 i] w (NumP w (getE l i)) := by
  obtain ⟨R, hR⟩ : ∃ R, getE l i = R := ⟨_, rfl⟩
  have HR : Shut (getE l i = R) := ⟨hR⟩
  rw [hR]
  clear hR
  cases hw : decide (0 ≤ i ∧ i ≤ (l.length : Int))
  · have hR : R = (0, 0, 1) := by
      rw [← HR.out, getE, if_pos]
      simp at hw
      omega
    subst hR
    go_enter Try.func61, Try.ntmps61
    go_wp2_with (first | (go_at_call 78; refine (zD _ _ _ _ _).mono ?_; rintro e wN ⟨rfl, hwN⟩; replace hwN := hwN.symm; subst hwN; rw [hw]))
    go_ret3
    exact ⟨rfl, rfl⟩
  · have hwi : 0 ≤ i ∧ i ≤ (l.length : Int) := by simpa using hw
    obtain ⟨p, rfl⟩ : ∃ p : Nat, i = (p : Int) := ⟨i.toNat, by omega⟩
    have hp : p ≤ l.length := by omega
    have HR2 : Shut (getR p (l.drop p) = R) := ⟨by rw [← HR.out, getE, if_neg (by omega)]; rfl⟩
    clear HR hwi
    obtain ⟨ao1, cap1, L1, E1, N1, C1⟩ := HC.cut bT p hp
    rw [← E1.out] at HR2
    have hL1 : L1.length = l.length - p := by rw [E1.out, List.length_drop]
    clear E1
    cases L1 with
    | nil =>
      have hR : R = (0, 0, 3) := HR2.out.symm
      subst hR
      clear HR2
      go_enter Try.func61, Try.ntmps61
      go_wp2_with (first | (go_at_call 78; refine (zD _ _ _ _ _).mono ?_; rintro e wN ⟨rfl, hwN⟩; replace hwN := hwN.symm; subst hwN; rw [hw]) | (with_reducible refine jw ?_; first | (refine jc 17 rfl rfl (.slice ao1 0 cap1) (C1.run _ _ rfl rfl rfl _) ?_; (try simp only [Act.put, List.setIfInBounds_toArray, List.set_cons_zero, List.set_cons_succ]))))
      go_ret3
      exact ⟨rfl, rfl⟩
    | cons k q =>
      have hql : q.length + 1 = l.length - p := by simpa using hL1
      have hlt1 := N1.lt256
      have hk256 : k < 256 := hlt1 k (by simp)
      have Hq : Shut (∀ x ∈ q, x < 256) := ⟨fun x hx => hlt1 x (by simp [hx])⟩
      clear hlt1
      obtain ⟨ad1, rfl, hc1⟩ := N1.at (j := 0) (by simp)
      replace hc1 : Shut (w.cell? (ad1.add 0) = some (.int .u8 (k : Int))) := ⟨hc1⟩
      obtain ⟨ao2, cap2, L2, E2, N2, C2⟩ := N1.cut bT 1 (by simp)
      have e2 : L2 = q := by rw [E2.out]; rfl
      subst e2
      clear E2 N1
      have HQ : Shut (L2.length + 1 = l.length - p) := ⟨hql⟩
      clear hql hL1
      by_cases h8 : 8 < k
      · have hR : R = (0, 0, 2) := by rw [← HR2.out, getR, if_pos h8]
        subst hR
        clear HR2
        go_enter Try.func61, Try.ntmps61
        go_wp2_with (first | (go_at_call 78; refine (zD _ _ _ _ _).mono ?_; rintro e wN ⟨rfl, hwN⟩; replace hwN := hwN.symm; subst hwN; rw [hw]) | (with_reducible refine jw ?_; first | (refine jc 17 rfl rfl (.slice (some ad1) (L2.length + 1) cap1) (C1.run _ _ rfl rfl rfl _) ?_; (try simp only [Act.put, List.setIfInBounds_toArray, List.set_cons_zero, List.set_cons_succ])) | (refine jc 20 rfl rfl (.bool false) (jB 3 .i64 _ _ _ rfl Try.underlying3 ((L2.length + 1 : Nat) : Int) 0 rfl rfl false (by simp; omega) _) ?_; (try simp only [Act.put, List.setIfInBounds_toArray, List.set_cons_zero, List.set_cons_succ])) | (refine jc 22 rfl rfl (.pointer (some (ad1.add 0))) (zd bT _ _ rfl ad1 (L2.length + 1) cap1 0 rfl rfl (by omega) _) ?_; (try simp only [Act.put, List.setIfInBounds_toArray, List.set_cons_zero, List.set_cons_succ])) | (refine jc 23 rfl rfl (.int .u8 (k : Int)) (zo bT _ rfl (ad1.add 0) rfl _ _ hc1.out) ?_; (try simp only [Act.put, List.setIfInBounds_toArray, List.set_cons_zero, List.set_cons_succ])) | (refine jc 24 rfl rfl (.int .i64 (k : Int)) (conv53 _ rfl k hk256 rfl _) ?_; (try simp only [Act.put, List.setIfInBounds_toArray, List.set_cons_zero, List.set_cons_succ])) | (refine jc 26 rfl rfl (.slice ao2 L2.length cap2) (C2.run _ _ rfl rfl rfl _) ?_; (try simp only [Act.put, List.setIfInBounds_toArray, List.set_cons_zero, List.set_cons_succ])) | (refine jc 29 rfl rfl (.bool true) (jX _ _ _ rfl (k : Int) 8 rfl rfl true (by simp; omega) _) ?_; (try simp only [Act.put, List.setIfInBounds_toArray, List.set_cons_zero, List.set_cons_succ]))))
        go_ret3
        exact ⟨rfl, rfl⟩
      · have h8' : k ≤ 8 := by omega
        clear h8
        by_cases hsh : L2.length < k
        · have hR : R = (0, 0, 3) := by rw [← HR2.out, getR, if_neg (by omega), if_pos hsh]
          subst hR
          clear HR2
          go_enter Try.func61, Try.ntmps61
          go_wp2_with (first | (go_at_call 78; refine (zD _ _ _ _ _).mono ?_; rintro e wN ⟨rfl, hwN⟩; replace hwN := hwN.symm; subst hwN; rw [hw]) | (with_reducible refine jw ?_; first | (refine jc 17 rfl rfl (.slice (some ad1) (L2.length + 1) cap1) (C1.run _ _ rfl rfl rfl _) ?_; (try simp only [Act.put, List.setIfInBounds_toArray, List.set_cons_zero, List.set_cons_succ])) | (refine jc 20 rfl rfl (.bool false) (jB 3 .i64 _ _ _ rfl Try.underlying3 ((L2.length + 1 : Nat) : Int) 0 rfl rfl false (by simp; omega) _) ?_; (try simp only [Act.put, List.setIfInBounds_toArray, List.set_cons_zero, List.set_cons_succ])) | (refine jc 22 rfl rfl (.pointer (some (ad1.add 0))) (zd bT _ _ rfl ad1 (L2.length + 1) cap1 0 rfl rfl (by omega) _) ?_; (try simp only [Act.put, List.setIfInBounds_toArray, List.set_cons_zero, List.set_cons_succ])) | (refine jc 23 rfl rfl (.int .u8 (k : Int)) (zo bT _ rfl (ad1.add 0) rfl _ _ hc1.out) ?_; (try simp only [Act.put, List.setIfInBounds_toArray, List.set_cons_zero, List.set_cons_succ])) | (refine jc 24 rfl rfl (.int .i64 (k : Int)) (conv53 _ rfl k hk256 rfl _) ?_; (try simp only [Act.put, List.setIfInBounds_toArray, List.set_cons_zero, List.set_cons_succ])) | (refine jc 26 rfl rfl (.slice ao2 L2.length cap2) (C2.run _ _ rfl rfl rfl _) ?_; (try simp only [Act.put, List.setIfInBounds_toArray, List.set_cons_zero, List.set_cons_succ])) | (refine jc 29 rfl rfl (.bool false) (jX _ _ _ rfl (k : Int) 8 rfl rfl false (by simp; omega) _) ?_; (try simp only [Act.put, List.setIfInBounds_toArray, List.set_cons_zero, List.set_cons_succ])) | (refine jc 34 rfl rfl (.bool true) (jK _ _ _ rfl (L2.length : Int) (k : Int) rfl rfl true (by simp; omega) _) ?_; (try simp only [Act.put, List.setIfInBounds_toArray, List.set_cons_zero, List.set_cons_succ]))))
          go_ret3
          exact ⟨rfl, rfl⟩
        · have hkl : k ≤ L2.length := by omega
          clear hsh
          by_cases hk0 : k = 0
          · have hR : R = (0, p + 1, 0) := by rw [← HR2.out, getR, if_neg (by omega), if_neg (by omega), if_neg (by omega), hk0]; rfl
            subst hR
            subst hk0
            have hpp : p + 1 ≤ l.length := by have := HQ.out; omega
            clear HR2 Hq HQ
            go_enter Try.func61, Try.ntmps61
            go_wp2_with (first | (go_at_call 78; refine (zD _ _ _ _ _).mono ?_; rintro e wN ⟨rfl, hwN⟩; replace hwN := hwN.symm; subst hwN; rw [hw]) | (with_reducible refine jw ?_; first | (refine jc 17 rfl rfl (.slice (some ad1) (L2.length + 1) cap1) (C1.run _ _ rfl rfl rfl _) ?_; (try simp only [Act.put, List.setIfInBounds_toArray, List.set_cons_zero, List.set_cons_succ])) | (refine jc 20 rfl rfl (.bool false) (jB 3 .i64 _ _ _ rfl Try.underlying3 ((L2.length + 1 : Nat) : Int) 0 rfl rfl false (by simp; omega) _) ?_; (try simp only [Act.put, List.setIfInBounds_toArray, List.set_cons_zero, List.set_cons_succ])) | (refine jc 22 rfl rfl (.pointer (some (ad1.add 0))) (zd bT _ _ rfl ad1 (L2.length + 1) cap1 0 rfl rfl (by omega) _) ?_; (try simp only [Act.put, List.setIfInBounds_toArray, List.set_cons_zero, List.set_cons_succ])) | (refine jc 23 rfl rfl (.int .u8 ((0 : Nat) : Int)) (zo bT _ rfl (ad1.add 0) rfl _ _ hc1.out) ?_; (try simp only [Act.put, List.setIfInBounds_toArray, List.set_cons_zero, List.set_cons_succ])) | (refine jc 24 rfl rfl (.int .i64 ((0 : Nat) : Int)) (conv53 _ rfl 0 hk256 rfl _) ?_; (try simp only [Act.put, List.setIfInBounds_toArray, List.set_cons_zero, List.set_cons_succ])) | (refine jc 26 rfl rfl (.slice ao2 L2.length cap2) (C2.run _ _ rfl rfl rfl _) ?_; (try simp only [Act.put, List.setIfInBounds_toArray, List.set_cons_zero, List.set_cons_succ])) | (refine jc 29 rfl rfl (.bool false) (jX _ _ _ rfl ((0 : Nat) : Int) 8 rfl rfl false (by simp; omega) _) ?_; (try simp only [Act.put, List.setIfInBounds_toArray, List.set_cons_zero, List.set_cons_succ])) | (refine jc 34 rfl rfl (.bool false) (jK _ _ _ rfl (L2.length : Int) ((0 : Nat) : Int) rfl rfl false (by simp; omega) _) ?_; (try simp only [Act.put, List.setIfInBounds_toArray, List.set_cons_zero, List.set_cons_succ])) | (refine jc 37 rfl rfl (.bool false) (jX _ _ _ rfl ((0 : Nat) : Int) 0 rfl rfl false (by decide) _) ?_; (try simp only [Act.put, List.setIfInBounds_toArray, List.set_cons_zero, List.set_cons_succ]))))
            go_loopw [9, 45] (fun x i wr => x = .int .u64 0 ∧ i = .int .i64 0 ∧ wr = w) (fun _ _ _ => 0)
            case atStart => exact ⟨rfl, rfl, rfl⟩
            case round =>
              rename_i wr
              obtain ⟨rfl, rfl, hwr⟩ := hrel
              replace hwr := hwr.symm
              subst hwr
              go_wp2_with (first | (with_reducible refine jw ?_; first | (refine jc 59 rfl rfl (.int .i64 ((p + 1 : Nat) : Int)) (jp _ _ _ rfl (p : Int) 1 _ rfl rfl (by omega) (by omega) (by omega) _) ?_; (try simp only [Act.put, List.setIfInBounds_toArray, List.set_cons_zero, List.set_cons_succ])) | (refine jc 61 rfl rfl (.int .i64 ((p + 1 : Nat) : Int)) (jp _ _ _ rfl ((p + 1 : Nat) : Int) ((0 : Nat) : Int) _ rfl rfl (by omega) (by omega) (by omega) _) ?_; (try simp only [Act.put, List.setIfInBounds_toArray, List.set_cons_zero, List.set_cons_succ]))))
              go_ret3
              exact ⟨rfl, rfl⟩
          · obtain ⟨ad2, rfl, hc2⟩ := N2.at (j := 0) (by omega)
            have hh : L2.headD 0 = L2.getD 0 0 := by cases L2 <;> rfl
            obtain ⟨y, hy⟩ : ∃ y, L2.getD 0 0 = y := ⟨_, rfl⟩
            rw [hy] at hh hc2
            replace hc2 : Shut _ := ⟨hc2⟩
            have HH : Shut _ := ⟨hh⟩
            clear hh hy
            by_cases hy0 : y = 0
            · have hR : R = (0, 0, 2) := by rw [← HR2.out, getR, if_neg (by omega), if_neg (by omega), if_pos ⟨by omega, by rw [HH.out, hy0]⟩]
              subst hR
              subst hy0
              clear HR2
              go_enter Try.func61, Try.ntmps61
              go_wp2_with (first | (go_at_call 78; refine (zD _ _ _ _ _).mono ?_; rintro e wN ⟨rfl, hwN⟩; replace hwN := hwN.symm; subst hwN; rw [hw]) | (with_reducible refine jw ?_; first | (refine jc 17 rfl rfl (.slice (some ad1) (L2.length + 1) cap1) (C1.run _ _ rfl rfl rfl _) ?_; (try simp only [Act.put, List.setIfInBounds_toArray, List.set_cons_zero, List.set_cons_succ])) | (refine jc 20 rfl rfl (.bool false) (jB 3 .i64 _ _ _ rfl Try.underlying3 ((L2.length + 1 : Nat) : Int) 0 rfl rfl false (by simp; omega) _) ?_; (try simp only [Act.put, List.setIfInBounds_toArray, List.set_cons_zero, List.set_cons_succ])) | (refine jc 22 rfl rfl (.pointer (some (ad1.add 0))) (zd bT _ _ rfl ad1 (L2.length + 1) cap1 0 rfl rfl (by omega) _) ?_; (try simp only [Act.put, List.setIfInBounds_toArray, List.set_cons_zero, List.set_cons_succ])) | (refine jc 23 rfl rfl (.int .u8 (k : Int)) (zo bT _ rfl (ad1.add 0) rfl _ _ hc1.out) ?_; (try simp only [Act.put, List.setIfInBounds_toArray, List.set_cons_zero, List.set_cons_succ])) | (refine jc 24 rfl rfl (.int .i64 (k : Int)) (conv53 _ rfl k hk256 rfl _) ?_; (try simp only [Act.put, List.setIfInBounds_toArray, List.set_cons_zero, List.set_cons_succ])) | (refine jc 26 rfl rfl (.slice (some ad2) L2.length cap2) (C2.run _ _ rfl rfl rfl _) ?_; (try simp only [Act.put, List.setIfInBounds_toArray, List.set_cons_zero, List.set_cons_succ])) | (refine jc 29 rfl rfl (.bool false) (jX _ _ _ rfl (k : Int) 8 rfl rfl false (by simp; omega) _) ?_; (try simp only [Act.put, List.setIfInBounds_toArray, List.set_cons_zero, List.set_cons_succ])) | (refine jc 34 rfl rfl (.bool false) (jK _ _ _ rfl (L2.length : Int) (k : Int) rfl rfl false (by simp; omega) _) ?_; (try simp only [Act.put, List.setIfInBounds_toArray, List.set_cons_zero, List.set_cons_succ])) | (refine jc 37 rfl rfl (.bool true) (jX _ _ _ rfl (k : Int) 0 rfl rfl true (by simp; omega) _) ?_; (try simp only [Act.put, List.setIfInBounds_toArray, List.set_cons_zero, List.set_cons_succ])) | (refine jv 40 rfl rfl (.pointer (some (ad2.add 0))) (zd bT _ _ rfl ad2 L2.length cap2 0 rfl rfl (by omega) _) ?_; (try simp only [Act.put, List.setIfInBounds_toArray, List.set_cons_zero, List.set_cons_succ])) | (refine jv 41 rfl rfl (.int .u8 ((0 : Nat) : Int)) (zo bT _ rfl (ad2.add 0) rfl _ _ hc2.out) ?_; (try simp only [Act.put, List.setIfInBounds_toArray, List.set_cons_zero, List.set_cons_succ]))))
              go_ret3
              exact ⟨rfl, rfl⟩
            · have hR : R = (valL (L2.take k), p + 1 + k, 0) := by
                rw [← HR2.out, getR, if_neg (by omega), if_neg (by omega), if_neg]
                rw [HH.out]
                omega
              have HR3 : Shut _ := ⟨hR⟩
              have hpp : p + 1 + k ≤ l.length := by have := HQ.out; omega
              clear HR2 HQ hR
              go_enter Try.func61, Try.ntmps61
              go_wp2_with (first | (go_at_call 78; refine (zD _ _ _ _ _).mono ?_; rintro e wN ⟨rfl, hwN⟩; replace hwN := hwN.symm; subst hwN; rw [hw]) | (with_reducible refine jw ?_; first | (refine jc 17 rfl rfl (.slice (some ad1) (L2.length + 1) cap1) (C1.run _ _ rfl rfl rfl _) ?_; (try simp only [Act.put, List.setIfInBounds_toArray, List.set_cons_zero, List.set_cons_succ])) | (refine jc 20 rfl rfl (.bool false) (jB 3 .i64 _ _ _ rfl Try.underlying3 ((L2.length + 1 : Nat) : Int) 0 rfl rfl false (by simp; omega) _) ?_; (try simp only [Act.put, List.setIfInBounds_toArray, List.set_cons_zero, List.set_cons_succ])) | (refine jc 22 rfl rfl (.pointer (some (ad1.add 0))) (zd bT _ _ rfl ad1 (L2.length + 1) cap1 0 rfl rfl (by omega) _) ?_; (try simp only [Act.put, List.setIfInBounds_toArray, List.set_cons_zero, List.set_cons_succ])) | (refine jc 23 rfl rfl (.int .u8 (k : Int)) (zo bT _ rfl (ad1.add 0) rfl _ _ hc1.out) ?_; (try simp only [Act.put, List.setIfInBounds_toArray, List.set_cons_zero, List.set_cons_succ])) | (refine jc 24 rfl rfl (.int .i64 (k : Int)) (conv53 _ rfl k hk256 rfl _) ?_; (try simp only [Act.put, List.setIfInBounds_toArray, List.set_cons_zero, List.set_cons_succ])) | (refine jc 26 rfl rfl (.slice (some ad2) L2.length cap2) (C2.run _ _ rfl rfl rfl _) ?_; (try simp only [Act.put, List.setIfInBounds_toArray, List.set_cons_zero, List.set_cons_succ])) | (refine jc 29 rfl rfl (.bool false) (jX _ _ _ rfl (k : Int) 8 rfl rfl false (by simp; omega) _) ?_; (try simp only [Act.put, List.setIfInBounds_toArray, List.set_cons_zero, List.set_cons_succ])) | (refine jc 34 rfl rfl (.bool false) (jK _ _ _ rfl (L2.length : Int) (k : Int) rfl rfl false (by simp; omega) _) ?_; (try simp only [Act.put, List.setIfInBounds_toArray, List.set_cons_zero, List.set_cons_succ])) | (refine jc 37 rfl rfl (.bool true) (jX _ _ _ rfl (k : Int) 0 rfl rfl true (by simp; omega) _) ?_; (try simp only [Act.put, List.setIfInBounds_toArray, List.set_cons_zero, List.set_cons_succ])) | (refine jv 40 rfl rfl (.pointer (some (ad2.add 0))) (zd bT _ _ rfl ad2 L2.length cap2 0 rfl rfl (by omega) _) ?_; (try simp only [Act.put, List.setIfInBounds_toArray, List.set_cons_zero, List.set_cons_succ])) | (refine jv 41 rfl rfl (.int .u8 (y : Int)) (zo bT _ rfl (ad2.add 0) rfl _ _ hc2.out) ?_; (try simp only [Act.put, List.setIfInBounds_toArray, List.set_cons_zero, List.set_cons_succ])) | (refine jv 42 rfl rfl (.bool false) (jB 5 .u8 _ _ _ rfl Try.underlying5 (y : Int) 0 rfl rfl false (by simp; omega) _) ?_; (try simp only [Act.put, List.setIfInBounds_toArray, List.set_cons_zero, List.set_cons_succ]))))
              go_loopw [9, 45] (fun x i wr => ∃ j : Nat, j ≤ k ∧ x = .int .u64 (valL (L2.take j) : Int) ∧ i = .int .i64 (j : Int) ∧ wr = w) (fun _ i _ => k - (intOf i).toNat)
              case atStart => exact ⟨0, by omega, rfl, rfl, rfl⟩
              case round =>
                rename_i wr
                obtain ⟨j, hj, rfl, rfl, hwr⟩ := hrel
                replace hwr := hwr.symm
                subst hwr
                cases hlt : decide ((j : Int) < (k : Int))
                · have ej : j = k := by simp at hlt; omega
                  subst ej
                  go_wp2_with (first | (with_reducible refine jw ?_; first | (refine jc 46 rfl rfl (.bool false) (jK _ _ _ rfl (j : Int) (j : Int) rfl rfl false hlt _) ?_; (try simp only [Act.put, List.setIfInBounds_toArray, List.set_cons_zero, List.set_cons_succ])) | (refine jc 59 rfl rfl (.int .i64 ((p + 1 : Nat) : Int)) (jp _ _ _ rfl (p : Int) 1 _ rfl rfl (by omega) (by omega) (by omega) _) ?_; (try simp only [Act.put, List.setIfInBounds_toArray, List.set_cons_zero, List.set_cons_succ])) | (refine jc 61 rfl rfl (.int .i64 ((p + 1 + j : Nat) : Int)) (jp _ _ _ rfl ((p + 1 : Nat) : Int) (j : Int) _ rfl rfl (by omega) (by omega) (by omega) _) ?_; (try simp only [Act.put, List.setIfInBounds_toArray, List.set_cons_zero, List.set_cons_succ]))))
                  go_ret3
                  exact ⟨by rw [HR3.out]; rfl, rfl⟩
                · have hjk : j < k := by simp at hlt; omega
                  have HS : Shut _ := ⟨vY L2 j (by omega)⟩
                  have hsm := yl L2 Hq.out j (by omega) (by omega)
                  have hcj := N2.cell ad2 rfl j (by omega)
                  have hz := Hq.out _ (up L2 0 j (by omega))
                  obtain ⟨z, hz'⟩ : ∃ z, L2.getD j 0 = z := ⟨_, rfl⟩
                  rw [hz'] at HS hcj hz
                  clear hz'
                  replace hcj : Shut _ := ⟨hcj⟩
                  obtain ⟨x, hx⟩ : ∃ x, valL (L2.take j) = x := ⟨_, rfl⟩
                  rw [hx] at HS hsm ⊢
                  clear hx
                  go_wp2_with (first | (with_reducible refine jw ?_; first | (refine jc 46 rfl rfl (.bool true) (jK _ _ _ rfl (j : Int) (k : Int) rfl rfl true hlt _) ?_; (try simp only [Act.put, List.setIfInBounds_toArray, List.set_cons_zero, List.set_cons_succ])) | (refine jc 49 rfl rfl (.int .u64 ((x * 256 : Nat) : Int)) (YH _ _ _ _ rfl x hsm .u64 rfl rfl _) ?_; (try simp only [Act.put, List.setIfInBounds_toArray, List.set_cons_zero, List.set_cons_succ])) | (refine jc 52 rfl rfl (.pointer (some (ad2.add j))) (zd bT _ _ rfl ad2 L2.length cap2 j rfl rfl (by omega) _) ?_; (try simp only [Act.put, List.setIfInBounds_toArray, List.set_cons_zero, List.set_cons_succ])) | (refine jc 53 rfl rfl (.int .u8 (z : Int)) (zo bT _ rfl (ad2.add j) rfl _ _ hcj.out) ?_; (try simp only [Act.put, List.setIfInBounds_toArray, List.set_cons_zero, List.set_cons_succ])) | (refine jc 54 rfl rfl (.int .u64 (z : Int)) (conv525 _ rfl z hz rfl _) ?_; (try simp only [Act.put, List.setIfInBounds_toArray, List.set_cons_zero, List.set_cons_succ])) | (refine jc 55 rfl rfl (.int .u64 ((x * 256 + z : Nat) : Int)) (Ur _ _ _ _ rfl x z hsm hz rfl rfl _ rfl _) ?_; (try simp only [Act.put, List.setIfInBounds_toArray, List.set_cons_zero, List.set_cons_succ]))))
                  go_light
                  go_roundw
                  case rel => exact ⟨j + 1, by omega, by rw [HS.out], by go_num, by trivial⟩
                  case measure => simp [intOf]; omega
end Go.Proofs.Ytgfnjekpafempaa
