/- Walks. -/
import Derived.Test.YtjahegiopigblaaHB4
import Derived.Test.YtjahegiopigblaaHNum2
namespace Go.Proofs.Ytjahegiopigblaa
open Go.RowKit
set_option maxHeartbeats 400000 in
theorem wide_any (a : Nat) (ha : a < top) (w : World) :
    Calls Try.prog 54 #[idV a] w fun e w' => e = .returned (.tuple #[.int .u64 (hiN a 8), .int .u64 (loN a 8)]) ∧ Gro w w' := by
  have HA : Hid (a < top) := ha
  clear ha
  unfold idV
  go_enter Try.func54, Try.ntmps54
  go_wp2_with (refine wpList_box_agg rfl 23 _ rfl _ rfl ?_; intro w1 g1 G1 e1 h1)
  clear e1
  go_loop [4, 5, 6] (fun hi lo i => ∃ k : Nat, k ≤ 8 ∧ i = .int .i64 k ∧ hi = .int .u64 (hiN a k) ∧ lo = .int .u64 (loN a k)) (fun _ _ i => 8 - (intOf i).toNat)
  case atStart => exact ⟨0, by omega, rfl, by rw [hiN_0 a HA.out]; rfl, by rw [loN_0 a]; rfl⟩
  case round =>
    obtain ⟨k, hk, rfl, rfl, rfl⟩ := hrel
    cases hlt : decide ((k : Int) < 8)
    · have e8 : k = 8 := by simp at hlt; omega
      subst e8
      go_wp2
      go_ret2
      exact ⟨rfl, G1⟩
    · have hk8 : k < 8 := by simp at hlt; omega
      have c1 : w1.cell? ⟨g1, k, none⟩ = some (.int .u8 (byt a k)) := by rw [cell_of_row w1 g1 k _ 23 _ h1]; exact idA_get a k (by omega)
      have c2 : w1.cell? ⟨g1, 8 + k, none⟩ = some (.int .u8 (byt a (8 + k))) := by rw [cell_of_row w1 g1 _ _ 23 _ h1]; exact idA_get a _ (by omega)
      have HS : Hid (hiN a (k + 1) = hiN a k * 256 + byt a k) := hiN_step a k hk8
      have HT : Hid (loN a (k + 1) = loN a k * 256 + byt a (8 + k)) := loN_step a k hk8
      have b1 := hiN_lt a k HA.out hk8
      have b2 := loN_lt a k hk8
      have b3 := byt_lt a k
      have b4 := byt_lt a (8 + k)
      generalize hiN a k = H at *
      generalize loN a k = L at *
      generalize byt a k = X at *
      generalize byt a (8 + k) = Y at *
      go_wp2
      go_light
      go_round
      case rel => exact ⟨k + 1, by omega, by go_num, by rw [HS.out]; go_num, by rw [HT.out]; go_num⟩
      case measure => simp [intOf]; omega
theorem wrap_u64 (n : Nat) (h : n < half) : IntKind.u64.wrap (n : Int) = n := by
  unfold half at h
  simp [IntKind.wrap, IntKind.bits, IntKind.signed]
  omega
set_option maxHeartbeats 400000 in
theorem id_any (x y : Nat) (hx : x < half) (hy : y < half) (w : World) :
    Calls Try.prog 55 #[.int .u64 (x : Int), .int .u64 (y : Int)] w fun e w' => e = .returned (idV (x * half + y)) ∧ Gro w w' := by
  have HX : Hid (x < half) := hx
  have HY : Hid (y < half) := hy
  clear hx hy
  unfold idV
  go_enter Try.func55, Try.ntmps55
  go_wp2_with (refine wpList_alloc_agg rfl 23 rfl _ zero23 ?_; intro _ _ _ _ _)
  rename_i w1 g1 G1 e1 h1 w2 g2 G2 e2 h2 K hK
  have n1 := lt_of_heap h1
  have s1 := G1.size
  have s2 := G2.size
  have k1 := G2.has h1
  have GG : Gro w w2 := G1.trans G2
  have l1 : g1 < g2 := by omega
  have l0 : w.heap.size ≤ g1 := by omega
  have l00 : w.heap.size ≤ g2 := by omega
  clear h1 G1 G2 s1 s2 n1 e1 e2
  go_loopw [0, 1, 6] (fun p q i wr => ∃ k : Nat, ((k = 0 ∧ i = .int .i64 (-1)) ∨ (∃ j : Nat, j < 8 ∧ k = j + 1 ∧ i = .int .i64 j)) ∧ p = .int .u64 ((x / 256 ^ (8 - k) : Nat) : Int) ∧ q = .int .u64 ((y / 256 ^ (8 - k) : Nat) : Int) ∧ Below g2 w2 wr ∧ wr.heap[g2]? = some (.cells (idA (twoN x y k)) 23 (0, 0))) (fun _ _ i _ => (intOf i + 1).toNat)
  case atStart => exact ⟨8, Or.inr ⟨7, by omega, rfl, rfl⟩, by simp, by simp, Below.refl _ _, by rw [h2, twoN_8]⟩
  case round =>
    rename_i wr
    obtain ⟨k, hk, rfl, rfl, hb, hw⟩ := hrel
    have q1 := (hb.block g1 l1).trans k1
    clear h2 k1
    rcases hk with ⟨rfl, rfl⟩ | ⟨j, hj, rfl, rfl⟩
    · rw [twoN_0 x y HX.out HY.out] at hw
      generalize x / 256 ^ (8 - 0) = X at *
      generalize y / 256 ^ (8 - 0) = Y at *
      go_wp2_with (first | (refine wpList_load_row rfl 23 _ rfl _ rfl 23 _ (0, 0) _ hw Try.underlying23 rfl (size23' _) ?_) | (refine wpList_store_agg rfl rfl 23 _ _ rfl _ rfl _ rfl 23 _ q1 (size23' _) (by rw [idA_size, idA_size]) (idA_one _) ?_; intro w5 hst))
      exact bodyPost_ret (v := .agg (idA (x * half + y))) (results_cell_row Try.results55 _ _ g1 23 _ (0, 0) _ rfl hst.new Try.underlying23 rfl (size23' _)) rfl ⟨rfl, (Below.trans GG (hb.mono l00)).trans (hst.below l0)⟩
    · have HS : Hid (((idA (twoN x y (j + 1))).setIfInBounds j (.int .u8 ((x / 256 ^ (7 - j) % 256 : Nat) : Int))).setIfInBounds (8 + j) (.int .u8 ((y / 256 ^ (7 - j) % 256 : Nat) : Int)) = idA (twoN x y j)) := set_two x y j hj
      have e1 : 8 - (j + 1) = 7 - j := by omega
      rw [e1]
      have ex : Hid (x / 256 ^ (8 - j) = x / 256 ^ (7 - j) / 256) := by
        show _ = _
        have : 8 - j = (7 - j) + 1 := by omega
        rw [this, Nat.pow_succ, Nat.div_div_eq_div_mul]
      have ey : Hid (y / 256 ^ (8 - j) = y / 256 ^ (7 - j) / 256) := by
        show _ = _
        have : 8 - j = (7 - j) + 1 := by omega
        rw [this, Nat.pow_succ, Nat.div_div_eq_div_mul]
      have bx : x / 256 ^ (7 - j) < half := Nat.lt_of_le_of_lt (Nat.div_le_self _ _) HX.out
      have by' : y / 256 ^ (7 - j) < half := Nat.lt_of_le_of_lt (Nat.div_le_self _ _) HY.out
      have hsz : Hid (j < (idA (twoN x y (j + 1))).size) := by show _ < _; rw [idA_size]; omega
      generalize twoN x y (j + 1) = N at *
      generalize x / 256 ^ (7 - j) = X at *
      generalize y / 256 ^ (7 - j) = Y at *
      have hsz2 : Hid (∀ v, 8 + j < ((idA N).setIfInBounds j v).size) := by intro v; rw [Array.size_setIfInBounds, idA_size]; omega
      clear e1
      have hwN := hw
      have hbN := hb
      go_wp2_with (refine wpList_store_cell rfl rfl 5 _ _ rfl _ _ rfl _ _ rfl 23 _ hwN size5 ?_ _ rfl ?_; (simp only [Array.size_setIfInBounds, idA_size]; omega); intro w5 hstN; replace hwN := hstN.new; replace hbN := hbN.trans (hstN.below (Nat.le_refl _)); clear hstN)
      have e256 : ∀ n : Nat, ((n % 256 : Nat) : Int) = (n : Int) % 256 := fun n => by omega
      have HS2 := HS.out
      rw [e256, e256] at HS2
      rw [HS2] at hwN
      clear HS HS2 e256
      have wx : IntKind.u64.wrap ((X : Int) / 256) = ((X / 256 : Nat) : Int) := wrap_u64 (X / 256) (Nat.lt_of_le_of_lt (Nat.div_le_self _ _) bx)
      have wy : IntKind.u64.wrap ((Y : Int) / 256) = ((Y / 256 : Nat) : Int) := wrap_u64 (Y / 256) (Nat.lt_of_le_of_lt (Nat.div_le_self _ _) by')
      go_light
      go_roundw
      case rel =>
        refine ⟨j, ?_, by rw [ex.out, wx], by rw [ey.out, wy], hbN, hwN⟩
        by_cases h0 : j = 0
        · subst h0; exact Or.inl ⟨rfl, rfl⟩
        · exact Or.inr ⟨j - 1, by omega, by omega, by go_num⟩
      case measure => simp [intOf]
end Go.Proofs.Ytjahegiopigblaa
