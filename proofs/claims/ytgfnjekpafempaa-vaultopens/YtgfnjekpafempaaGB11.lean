/- Wire: the document's own forms; the chapter's examples. -/
import Derived.Test.YtgfnjekpafempaaGB10
namespace Go.Proofs.Ytgfnjekpafempaa
open Go.RowKit
section
variable {P : Program} {o : Oper} {A : Act}
theorem KD (t t2 : TypeId) (x y : Operand) (ho : o.op = .binOp .rem t x y t2) (a b : Nat) (hx : A.eval x = .int .u64 (a : Int)) (hy : A.eval y = .int .u64 (b : Int)) (hb : 0 < b) (ha : a < lim) (r : Nat) (hr : a % b = r) (w : World) : (execOp A.eval o).run P w = .ok (.value (.int .u64 (r : Int))) w := by
  refine jD .rem t x y t2 ho _ _ _ hx hy (by simp [eqGuard]) ?_
  have hlt : a % b < lim := Nat.lt_of_le_of_lt (Nat.mod_le a b) ha
  have h1 := ZX _ hlt
  have h2 : ((a : Int)).tmod (b : Int) = ((a % b : Nat) : Int) := by rw [Int.tmod_eq_emod_of_nonneg (by omega)]; rfl
  have h3 : ¬ (b : Int) = 0 := by omega
  subst hr
  simp only [binOp, Op.intDiv, h3, if_false, h2]
  simp
theorem KE (t t2 : TypeId) (x y : Operand) (ho : o.op = .binOp .quo t x y t2) (a b : Nat) (hx : A.eval x = .int .u64 (a : Int)) (hy : A.eval y = .int .u64 (b : Int)) (hb : 0 < b) (ha : a < lim) (r : Nat) (hr : a / b = r) (w : World) : (execOp A.eval o).run P w = .ok (.value (.int .u64 (r : Int))) w := by
  refine jD .quo t x y t2 ho _ _ _ hx hy (by simp [eqGuard]) ?_
  have hlt : a / b < lim := Nat.lt_of_le_of_lt (Nat.div_le_self a b) ha
  have h1 := ZX _ hlt
  have h2 : ((a : Int)).tdiv (b : Int) = ((a / b : Nat) : Int) := by rw [Int.tdiv_eq_ediv_of_nonneg (by omega)]; rfl
  have h3 : ¬ (b : Int) = 0 := by omega
  subst hr
  simp only [binOp, Op.intDiv, h3, if_false, h2, h1]
  simp
theorem ZH (x y : Operand) (t2 : TypeId) (ho : o.op = .binOp .geq 3 x y t2) (a b : Int) (hx : A.eval x = .int .i64 a) (hy : A.eval y = .int .i64 b) (p : Bool) (hp : decide (b ≤ a) = p) (w : World) : (execOp A.eval o).run P w = .ok (.value (.bool p)) w := by
  subst hp
  refine jD .geq 3 x y t2 ho _ _ _ hx hy (by simp [eqGuard]) ?_
  simp [go_sem]
end
theorem ge_nb (x : Nat) : 0 < nb x → 256 ^ (nb x - 1) ≤ x := by
  unfold nb
  (repeat' split) <;> simp <;> omega
theorem nb_le7 (x : Nat) (h : x < 72057594037927936) : nb x ≤ 7 := by
  unfold nb
  (repeat' split) <;> omega
theorem jaq (m : Nat) (h0 : 0 < m) (h : m < lim) : nb m = nb (m / 256) + 1 := by
  have hq : m / 256 < lim := Nat.lt_of_le_of_lt (Nat.div_le_self _ _) h
  have h1 := jat (m / 256) hq
  have h2 := ge_nb (m / 256)
  have h7 : nb (m / 256) ≤ 7 := nb_le7 _ (by unfold lim at h; omega)
  refine nb_of m _ (by omega) ?_ fun _ => ?_
  · rw [Nat.pow_succ]
    omega
  · rw [Nat.add_sub_cancel]
    by_cases h0' : nb (m / 256) = 0
    · rw [h0']
      omega
    · have h3 := h2 (by omega)
      have e : (256 : Nat) ^ nb (m / 256) = 256 ^ (nb (m / 256) - 1) * 256 := by rw [← Nat.pow_succ]; congr 1; omega
      rw [e]
      omega
theorem beL_div (m : Nat) (h0 : 0 < m) (h : m < lim) : beL (nb m) m = beL (nb (m / 256)) (m / 256) ++ [m % 256] := by
  rw [jaq m h0 h]
  rfl
theorem jbr (L : List Nat) (j : Nat) (h : j < L.length) : (L.drop j).reverse = (L.drop (j + 1)).reverse ++ [L.getD j 0] := by
  rw [List.drop_eq_getElem_cons h, List.reverse_cons, List.getD_eq_getElem?_getD, List.getElem?_eq_getElem h]
  rfl
set_option maxHeartbeats 1600000 in
theorem JU (x : Nat) (hx : x < lim) (w : World) : Calls Try.prog 42 #[.int .u64 (x : Int)] w (AppP w w.heap.size (numL x)) := by
  obtain ⟨B, hB⟩ : ∃ B, w.heap.size = B := ⟨_, rfl⟩
  have HB : Shut (w.heap.size = B) := ⟨hB⟩
  have hBw : B ≤ w.heap.size := by omega
  rw [hB]
  have hn8 := yw x
  clear hB
  go_enter Try.func42, Try.ntmps42
  go_wp2
  go_loopw [0, 3] (fun n v wr => ∃ (m : Nat) (ao : Option Addr) (cap : Nat) (L : List Nat), Shut (m < lim) ∧ n = .int .u64 (m : Int) ∧ v = .slice ao L.length cap ∧ Shut (beL (nb m) m ++ L.reverse = beL (nb x) x) ∧ Shut (nb m + L.length = nb x) ∧ L.length ≤ 8 ∧ OB wr 5 .u8 B ao cap L ∧ Below B w wr) (fun n _ _ => (intOf n).toNat)
  case atStart => exact ⟨x, none, 0, [], ⟨hx⟩, rfl, rfl, ⟨by simp⟩, ⟨by simp⟩, by simp, OB.nil _ _ _ _, Below.refl _ _⟩
  case round =>
    rename_i wr
    obtain ⟨m, ao, cap, L, HM, rfl, rfl, E1, E2, hL8, HO, BB⟩ := hrel
    by_cases hm0 : m = 0
    · subst hm0
      have hLl : L.length = nb x := by have := E2.out; have e : nb 0 = 0 := rfl; omega
      have ER : Shut (L.reverse = beL (nb x) x) := ⟨by have := E1.out; rw [show beL (nb 0) 0 = [] from rfl, List.nil_append] at this; exact this⟩
      have HLL : Shut (L.length = nb x) := ⟨hLl⟩
      clear E1 E2 hLl HM
      go_wp2_with (first | (with_reducible refine jw ?_; first | (refine jc 7 rfl rfl (.bool false) (jS _ _ _ _ rfl 0 0 rfl rfl false (by decide) _) ?_; (try simp only [Act.put, List.setIfInBounds_toArray, List.set_cons_zero, List.set_cons_succ])) | (refine jc 18 rfl rfl (.int .u8 (L.length : Int)) (conv35 _ rfl L.length (by omega) rfl _) ?_; (try simp only [Act.put, List.setIfInBounds_toArray, List.set_cons_zero, List.set_cons_succ])) | (refine yH 19 rfl rfl _ rfl (L.length) (by omega) rfl ?_; intro w2 g2 G2 e2 K2; (try simp only [Act.put, List.setIfInBounds_toArray, List.set_cons_zero, List.set_cons_succ])) | (refine jc 22 rfl rfl (.int .i64 ((L.length : Int) - 1)) (jR _ _ _ rfl (L.length : Int) 1 _ rfl rfl rfl (by omega) (by omega) _) ?_; (try simp only [Act.put, List.setIfInBounds_toArray, List.set_cons_zero, List.set_cons_succ]))))
      have NL : NC w2 .u8 ao cap L := HO.nc.gro G2
      have hlow : Shut (∀ ad, ao = some ad → 0 < L.length → ad.block < g2) := ⟨fun ad ha h => by have := HO.nc.lt ad ha h; omega⟩
      have BB2 : Below B w w2 := Below.trans BB (Below.mono G2 (Nat.le_trans hBw BB.size))
      have hBg : B ≤ g2 := by have := BB.size; omega
      have hg2 : g2 ≤ w2.heap.size := Nat.le_of_lt (K2.ge _ rfl).2
      clear HO BB G2
      go_loopw [4, 5] (fun v i wr => ∃ (j : Nat) (ao : Option Addr) (cap : Nat) (M : List Nat), j ≤ L.length ∧ i = .int .i64 ((j : Int) - 1) ∧ v = .slice ao M.length cap ∧ Shut (M = L.length :: (L.drop j).reverse) ∧ M.length ≤ 9 ∧ OB wr 5 .u8 g2 ao cap M ∧ Below g2 w2 wr) (fun _ i _ => (intOf i + 1).toNat)
      case atStart => exact ⟨L.length, some ⟨g2, 0, none⟩, 1, [L.length], by omega, rfl, rfl, ⟨by simp⟩, by simp, K2, Below.refl _ _⟩
      case round =>
        clear K2
        obtain ⟨j, ao3, cap3, M, hj, rfl, rfl, EM, hM9, HO, BB3⟩ := hrel
        by_cases hj0 : j = 0
        · subst hj0
          have EF : Shut (M = numL x) := ⟨by rw [EM.out, List.drop_zero, ER.out, HLL.out]; rfl⟩
          go_wp2_with (first | (with_reducible refine jw ?_; first | (refine jc 24 rfl rfl (.bool false) (ZH _ _ _ rfl (((0 : Nat) : Int) - 1) 0 rfl rfl false (by decide) _) ?_; (try simp only [Act.put, List.setIfInBounds_toArray, List.set_cons_zero, List.set_cons_succ]))))
          go_ret
          exact ⟨ao3, cap3, M, rfl, EF, HO.mono hBg, Below.trans BB2 (BB3.mono hBg)⟩
        · obtain ⟨i, rfl⟩ : ∃ i, j = i + 1 := ⟨j - 1, by omega⟩
          have hi : ((i + 1 : Nat) : Int) - 1 = (i : Int) := by omega
          rw [hi]
          obtain ⟨ad, rfl, hc⟩ := NL.at (j := i) (by omega)
          have hc2 : Shut _ := ⟨(World.cell?_of_block (BB3.block _ (by rw [zU]; exact hlow.out ad rfl (by omega)))).trans hc⟩
          have hz := NL.lt256 _ (up L 0 i (by omega))
          have HD : Shut _ := ⟨jbr L i (by omega)⟩
          clear hc
          obtain ⟨z, hz'⟩ : ∃ z, L.getD i 0 = z := ⟨_, rfl⟩
          rw [hz'] at hc2 hz HD
          clear hz' hi
          go_wp2_with (first | (with_reducible refine jw ?_; first | (refine jc 24 rfl rfl (.bool true) (ZH _ _ _ rfl (i : Int) 0 rfl rfl true (by simp) _) ?_; (try simp only [Act.put, List.setIfInBounds_toArray, List.set_cons_zero, List.set_cons_succ])) | (refine jc 30 rfl rfl (.pointer (some (ad.add i))) (zd bT _ _ rfl ad L.length cap i rfl rfl (by omega) _) ?_; (try simp only [Act.put, List.setIfInBounds_toArray, List.set_cons_zero, List.set_cons_succ])) | (refine jc 31 rfl rfl (.int .u8 (z : Int)) (zo bT _ rfl (ad.add i) rfl _ _ hc2.out) ?_; (try simp only [Act.put, List.setIfInBounds_toArray, List.set_cons_zero, List.set_cons_succ])) | (refine yH 32 rfl rfl _ rfl (z) (hz) rfl ?_; intro w4 g4 G4 e4 K4; (try simp only [Act.put, List.setIfInBounds_toArray, List.set_cons_zero, List.set_cons_succ])) | (refine yc rfl ?_)))
          constructor
          have HO4 := HO.gro G4
          have hgs := Nat.le_trans hg2 BB3.size
          refine ya bT 33 rfl rfl _ _ rfl rfl HO4 (l' := [z]) rfl K4.nc (by simp; omega) (by decide) (Nat.le_trans hgs G4.size) ?_
          intro ao5 cap5 M5 w5 E5 HO5 B5
          have BB6 : Below g2 w2 w5 := Below.trans BB3 (Below.trans (G4.mono hgs) B5)
          clear HO4 K4 G4 HO B5
          simp only [Act.put, List.setIfInBounds_toArray, List.set_cons_zero, List.set_cons_succ]
          go_wp2_with (first | (with_reducible refine jw ?_; first | (refine jc 26 rfl rfl (.int .i64 ((i : Int) - 1)) (jR _ _ _ rfl (i : Int) 1 _ rfl rfl rfl (by omega) (by omega) _) ?_; (try simp only [Act.put, List.setIfInBounds_toArray, List.set_cons_zero, List.set_cons_succ]))))
          go_light
          go_roundw
          case rel => exact ⟨i, ao5, cap5, M5, by omega, rfl, rfl, ⟨by rw [E5.out, EM.out, HD.out]; rfl⟩, by rw [E5.out, EM.out]; simp; omega, HO5, BB6⟩
          case measure => (simp [intOf]) <;> omega
    · have hmp : 0 < m := by omega
      have HD1 : Shut _ := ⟨jaq m hmp HM.out⟩
      have HD2 : Shut _ := ⟨beL_div m hmp HM.out⟩
      have HM2 : Shut (m / 256 < lim) := ⟨Nat.lt_of_le_of_lt (Nat.div_le_self _ _) HM.out⟩
      have hL7 : L.length < 8 := by have := E2.out; have := HD1.out; omega
      have hdm : m / 256 < m := Nat.div_lt_self hmp (by decide)
      obtain ⟨q, hq⟩ : ∃ q, m / 256 = q := ⟨_, rfl⟩
      obtain ⟨r, hr⟩ : ∃ r, m % 256 = r := ⟨_, rfl⟩
      have hr2 : r < 256 := by omega
      rw [hq] at HD1 HD2 HM2 hdm
      rw [hr] at HD2
      have HQ : Shut _ := ⟨hq⟩
      have HRR : Shut _ := ⟨hr⟩
      clear hq hr
      go_wp2_with (first | (with_reducible refine jw ?_; first | (refine jc 7 rfl rfl (.bool true) (jS _ _ _ _ rfl m 0 rfl rfl true (by simp; omega) _) ?_; (try simp only [Act.put, List.setIfInBounds_toArray, List.set_cons_zero, List.set_cons_succ])) | (refine jc 12 rfl rfl (.int .u64 (r : Int)) (KD _ _ _ _ rfl m 256 rfl rfl (by decide) HM.out r HRR.out _) ?_; (try simp only [Act.put, List.setIfInBounds_toArray, List.set_cons_zero, List.set_cons_succ])) | (refine jc 13 rfl rfl (.int .u8 (r : Int)) (conv255 _ rfl r r (Nat.mod_eq_of_lt hr2) rfl _) ?_; (try simp only [Act.put, List.setIfInBounds_toArray, List.set_cons_zero, List.set_cons_succ])) | (refine yH 14 rfl rfl _ rfl (r) (hr2) rfl ?_; intro w2 g2 G2 e2 K2; (try simp only [Act.put, List.setIfInBounds_toArray, List.set_cons_zero, List.set_cons_succ])) | (refine yc rfl ?_)))
      constructor
      have HO2 := HO.gro G2
      have hBr : B ≤ wr.heap.size := Nat.le_trans hBw BB.size
      refine ya bT 15 rfl rfl _ _ rfl rfl HO2 (l' := [r]) rfl K2.nc (by simp; omega) (by decide) (Nat.le_trans hBr G2.size) ?_
      intro ao3 cap3 L3 w3 E3 HO3 B3
      replace BB : Below B _ w3 := Below.trans BB (Below.trans (Below.mono G2 hBr) B3)
      clear B3 HO2 K2 G2 HO
      simp only [Act.put, List.setIfInBounds_toArray, List.set_cons_zero, List.set_cons_succ]
      go_wp2_with (first | (with_reducible refine jw ?_; first | (refine jc 9 rfl rfl (.int .u64 (q : Int)) (KE _ _ _ _ rfl m 256 rfl rfl (by decide) HM.out q HQ.out _) ?_; (try simp only [Act.put, List.setIfInBounds_toArray, List.set_cons_zero, List.set_cons_succ]))))
      go_light
      go_roundw
      case rel => exact ⟨q, ao3, cap3, L3, HM2, rfl, rfl, ⟨by rw [E3.out, ← E1.out, HD2.out]; simp⟩, ⟨by rw [E3.out, ← E2.out, HD1.out]; simp; omega⟩, by rw [E3.out]; simp; omega, HO3, BB⟩
      case measure => (simp [intOf]) <;> omega
end Go.Proofs.Ytgfnjekpafempaa
