/- Plain numbers: an identity as two words of 64 bits. -/
import Derived.Test.YtmpnepbmpmkmkaaGreatHNum
import Derived.Test.YtmpnepbmpmkmkaaGreatHB4
namespace Go.Proofs.YtmpnepbmpmkmkaaGreat
open Go.RowKit
/-- 2^64. -/
def half : Nat := 18446744073709551616
theorem half_eq : half = 256 ^ 8 := by decide
theorem top_half : top = half * half := by decide
theorem byt_two_hi (x y i : Nat) (hy : y < half) (hi : i < 8) : byt (x * half + y) i = x / 256 ^ (7 - i) % 256 := by
  unfold byt
  have e : 256 ^ (15 - i) = half * 256 ^ (7 - i) := by rw [half_eq, ← Nat.pow_add]; congr 1; omega
  rw [e, ← Nat.div_div_eq_div_mul, Nat.mul_comm x half, Nat.mul_add_div (by decide), Nat.div_eq_of_lt hy, Nat.add_zero]
theorem byt_two_lo (x y i : Nat) (hi : 8 ≤ i) (hi2 : i < 16) : byt (x * half + y) i = y / 256 ^ (15 - i) % 256 := by
  unfold byt
  have e : half = 256 ^ (15 - i) * (256 * 256 ^ (i - 8)) := by
    rw [half_eq, ← Nat.mul_assoc, ← Nat.pow_succ, ← Nat.pow_add]; congr 1; omega
  have e2 : x * half + y = 256 ^ (15 - i) * (256 * (x * 256 ^ (i - 8))) + y := by
    rw [e]
    have : x * (256 ^ (15 - i) * (256 * 256 ^ (i - 8))) = 256 ^ (15 - i) * (256 * (x * 256 ^ (i - 8))) := by
      ac_rfl
    rw [this]
  rw [e2, Nat.mul_add_div (Nat.pow_pos (by omega))]
  omega
/-- The low bytes of two words. -/
def twoN (x y k : Nat) : Nat := (x % 256 ^ (8 - k)) * half + y % 256 ^ (8 - k)
theorem low_lt (y k : Nat) : y % 256 ^ (8 - k) < half := Nat.lt_of_lt_of_le (Nat.mod_lt _ (Nat.pow_pos (by omega))) (by rw [half_eq]; exact Nat.pow_le_pow_right (by omega) (by omega))
theorem div_mod_low (s e p : Nat) : s % 256 ^ e / 256 ^ p % 256 = if p < e then s / 256 ^ p % 256 else 0 := by
  by_cases h : p < e
  · rw [if_pos h]
    have e1 : 256 ^ e = 256 ^ p * 256 ^ (e - p) := by rw [← Nat.pow_add]; congr 1; omega
    rw [e1, Nat.mod_mul_right_div_self]
    have e2 : e - p = (e - p - 1) + 1 := by omega
    rw [e2, Nat.pow_succ, Nat.mod_mod_of_dvd]
    exact Nat.dvd_mul_left _ _
  · rw [if_neg h]
    have h1 : s % 256 ^ e < 256 ^ p := Nat.lt_of_lt_of_le (Nat.mod_lt _ (Nat.pow_pos (by omega))) (Nat.pow_le_pow_right (by omega) (by omega))
    rw [Nat.div_eq_of_lt h1]
theorem set_two (x y j : Nat) (hj : j < 8) : ((idA (twoN x y (j + 1))).setIfInBounds j (.int .u8 ((x / 256 ^ (7 - j) % 256 : Nat) : Int))).setIfInBounds (8 + j) (.int .u8 ((y / 256 ^ (7 - j) % 256 : Nat) : Int)) = idA (twoN x y j) := by
  apply Array.ext_getElem?
  intro i
  by_cases hi : i < 16
  · rw [Array.getElem?_setIfInBounds, Array.size_setIfInBounds, Array.getElem?_setIfInBounds, idA_size, idA_get _ _ hi, idA_get _ _ hi]
    unfold twoN
    by_cases h8 : i < 8
    · rw [byt_two_hi _ _ _ (low_lt _ _) h8, byt_two_hi _ _ _ (low_lt _ _) h8, div_mod_low, div_mod_low]
      rw [if_neg (by omega)]
      by_cases h1 : j = i
      · subst h1; rw [if_pos rfl, if_pos (by omega), if_pos (by omega)]
      · rw [if_neg h1]
        by_cases h2 : i < j
        · rw [if_neg (by omega), if_neg (by omega)]
        · rw [if_pos (by omega), if_pos (by omega)]
    · rw [byt_two_lo _ _ _ (by omega) hi, byt_two_lo _ _ _ (by omega) hi, div_mod_low, div_mod_low]
      by_cases h1 : 8 + j = i
      · subst h1
        have e : 15 - (8 + j) = 7 - j := by omega
        rw [if_pos rfl, if_pos (by omega), if_pos (by omega), e]
      · rw [if_neg h1, if_neg (by omega)]
        by_cases h2 : i < 8 + j
        · rw [if_neg (by omega), if_neg (by omega)]
        · rw [if_pos (by omega), if_pos (by omega)]
  · rw [Array.getElem?_eq_none (by simp [idA_size]; omega), Array.getElem?_eq_none (by simp [idA_size]; omega)]
theorem twoN_8 (x y : Nat) : twoN x y 8 = 0 := by simp [twoN, Nat.mod_one]
theorem twoN_0 (x y : Nat) (hx : x < half) (hy : y < half) : twoN x y 0 = x * half + y := by
  rw [half_eq] at hx hy
  unfold twoN
  rw [Nat.mod_eq_of_lt hx, Nat.mod_eq_of_lt hy]
/-- The high word and the low word, i bytes of each. -/
def hiN (a i : Nat) : Nat := a / 256 ^ (16 - i)
def loN (a i : Nat) : Nat := a % half / 256 ^ (8 - i)
theorem hiN_0 (a : Nat) (ha : a < top) : hiN a 0 = 0 := Nat.div_eq_of_lt (by rw [top_eq] at ha; exact ha)
theorem loN_0 (a : Nat) : loN a 0 = 0 := Nat.div_eq_of_lt (by rw [half_eq]; exact Nat.mod_lt _ (Nat.pow_pos (by omega)))
theorem hiN_8 (a : Nat) : hiN a 8 = a / half := by rw [half_eq]; rfl
theorem loN_8 (a : Nat) : loN a 8 = a % half := by unfold loN; simp
theorem hiN_step (a i : Nat) (hi : i < 8) : hiN a (i + 1) = hiN a i * 256 + byt a i := by
  unfold hiN
  have e : 16 - (i + 1) = 15 - i := by omega
  rw [e, div_step a i (by omega)]
  omega
theorem loN_step (a i : Nat) (hi : i < 8) : loN a (i + 1) = loN a i * 256 + byt a (8 + i) := by
  unfold loN byt
  have e : 8 - (i + 1) = 7 - i := by omega
  have e2 : 15 - (8 + i) = 7 - i := by omega
  have e3 : 256 ^ (8 - i) = 256 ^ (7 - i) * 256 := by
    have : 8 - i = (7 - i) + 1 := by omega
    rw [this, Nat.pow_succ]
  have e4 := div_mod_low a 8 (7 - i)
  rw [if_pos (by omega), ← half_eq] at e4
  rw [e, e2, e3, ← Nat.div_div_eq_div_mul, ← e4]
  omega
theorem hiN_lt (a i : Nat) (ha : a < top) (hi : i < 8) : hiN a i < 72057594037927936 := by
  unfold hiN
  apply Nat.div_lt_of_lt_mul
  rw [top_eq] at ha
  have e : (72057594037927936 : Nat) = 256 ^ 7 := by decide
  rw [e, ← Nat.pow_add]
  exact Nat.lt_of_lt_of_le ha (Nat.pow_le_pow_right (by omega) (by omega))
theorem loN_lt (a i : Nat) (hi : i < 8) : loN a i < 72057594037927936 := by
  unfold loN
  apply Nat.div_lt_of_lt_mul
  have e : (72057594037927936 : Nat) = 256 ^ 7 := by decide
  rw [e, ← Nat.pow_add]
  exact Nat.lt_of_lt_of_le (Nat.mod_lt a (by decide : 0 < half)) (by rw [half_eq]; exact Nat.pow_le_pow_right (by omega) (by omega))
theorem hi_lt (a : Nat) (ha : a < top) : a / half < half := Nat.div_lt_of_lt_mul (by rw [← top_half]; exact ha)
theorem lo_lt (a : Nat) : a % half < half := Nat.mod_lt _ (by decide)
/-- Two words, compared and taken off. -/
theorem lt_two (a b : Nat) : a < b ↔ a / half < b / half ∨ (a / half = b / half ∧ a % half < b % half) := by
  have h := lex_lt half (a / half) (b / half) (a % half) (b % half) (lo_lt a) (lo_lt b)
  rwa [Nat.div_add_mod, Nat.div_add_mod] at h
theorem sub_two (a b : Nat) (ha : a < top) (hb : b < top) :
    ((a / half + half + half - b / half - (if a % half < b % half then 1 else 0)) % half) * half + (a % half + half - b % half) % half = subN a b := by
  have h1 := hi_lt a ha
  have h2 := hi_lt b hb
  have h3 := lo_lt a
  have h4 := lo_lt b
  have h5 := Nat.div_add_mod a half
  have h6 := Nat.div_add_mod b half
  unfold subN
  have ht : top = half * half := top_half
  generalize a / half = x at *
  generalize a % half = y at *
  generalize b / half = u at *
  generalize b % half = v at *
  subst h5
  subst h6
  clear ht
  simp only [show half = 18446744073709551616 from rfl, show top = 340282366920938463463374607431768211456 from rfl] at *
  split <;> omega
end Go.Proofs.YtmpnepbmpmkmkaaGreat
namespace Go.Proofs.YtmpnepbmpmkmkaaGreat
open Go.RowKit
set_option maxHeartbeats 400000 in
theorem wide_any (a : Nat) (ha : a < top) (w : World) :
    Calls Tryz.prog 60 #[idV a] w fun e w' => e = .returned (.tuple #[.int .u64 (hiN a 8), .int .u64 (loN a 8)]) ∧ Gro w w' := by
  have HA : Hid (a < top) := ha
  clear ha
  unfold idV
  go_enter Tryz.func60, Tryz.ntmps60
  go_wp2_with (refine wpList_box_agg rfl 24 _ rfl _ rfl ?_; intro w1 g1 G1 e1 h1)
  clear e1
  go_loop [4, 5, 6] (fun hi lo i => ∃ k : Nat, k ≤ 8 ∧ i = .int .i64 k ∧ hi = .int .u64 (hiN a k) ∧ lo = .int .u64 (loN a k)) (fun _ _ i => 8 - (intOf i).toNat)
  case atStart => exact ⟨0, by omega, rfl, by rw [hiN_0 a HA.out]; rfl, by rw [loN_0 a]; rfl⟩
  case round =>
    obtain ⟨k, hk, rfl, rfl, rfl⟩ := hrel
    cases hlt : decide ((k : Int) < 8)
    · have e8 : k = 8 := by simp at hlt; omega
      subst e8
      go_wp2
      go_ret2
      exact ⟨rfl, G1⟩
    · have hk8 : k < 8 := by simp at hlt; omega
      have c1 : w1.cell? ⟨g1, k, none⟩ = some (.int .u8 (byt a k)) := by rw [cell_of_row w1 g1 k _ 24 _ h1]; exact idA_get a k (by omega)
      have c2 : w1.cell? ⟨g1, 8 + k, none⟩ = some (.int .u8 (byt a (8 + k))) := by rw [cell_of_row w1 g1 _ _ 24 _ h1]; exact idA_get a _ (by omega)
      have HS : Hid (hiN a (k + 1) = hiN a k * 256 + byt a k) := hiN_step a k hk8
      have HT : Hid (loN a (k + 1) = loN a k * 256 + byt a (8 + k)) := loN_step a k hk8
      have b1 := hiN_lt a k HA.out hk8
      have b2 := loN_lt a k hk8
      have b3 := byt_lt a k
      have b4 := byt_lt a (8 + k)
      generalize hiN a k = H at *
      generalize loN a k = L at *
      generalize byt a k = X at *
      generalize byt a (8 + k) = Y at *
      go_wp2
      go_light
      go_round
      case rel => exact ⟨k + 1, by omega, by go_num, by rw [HS.out]; go_num, by rw [HT.out]; go_num⟩
      case measure => simp [intOf]; omega
theorem wrap_u64 (n : Nat) (h : n < half) : IntKind.u64.wrap (n : Int) = n := by
  unfold half at h
  simp [IntKind.wrap, IntKind.bits, IntKind.signed]
  omega
end Go.Proofs.YtmpnepbmpmkmkaaGreat
namespace Go.Proofs.YtmpnepbmpmkmkaaGreat
open Go.RowKit
theorem less_two (a b : Nat) (p q r : Bool) (hp : decide (hiN a 8 < hiN b 8) = p) (hq : ((hiN a 8 : Int) == hiN b 8) = q) (hr : decide (loN a 8 < loN b 8) = r) : decide (a < b) = (p || (q && r)) := by
  subst hp hq hr
  rw [Bool.eq_iff_iff]
  simp only [decide_eq_true_eq, Bool.or_eq_true, Bool.and_eq_true, beq_iff_eq]
  rw [lt_two, hiN_8, hiN_8, loN_8, loN_8]
  omega
set_option maxHeartbeats 400000 in
theorem less_any (a b : Nat) (ha : a < top) (hb : b < top) (w : World) :
    Calls Tryz.prog 43 #[idV a, idV b] w fun e w' => e = .returned (.bool (decide (a < b))) ∧ Gro w w' := by
  obtain ⟨p, hp⟩ : ∃ p, decide (hiN a 8 < hiN b 8) = p := ⟨_, rfl⟩
  obtain ⟨q, hq⟩ : ∃ q, ((hiN a 8 : Int) == hiN b 8) = q := ⟨_, rfl⟩
  obtain ⟨r, hr⟩ : ∃ r, decide (loN a 8 < loN b 8) = r := ⟨_, rfl⟩
  rw [less_two a b p q r hp hq hr]
  unfold idV
  have GG : Gro w w := Gro.refl w
  cases p
  all_goals cases q
  all_goals
    go_enter Tryz.func43, Tryz.ntmps43
    go_wp2_with (first | (refine wpList_box_d 2 rfl rfl 24 _ rfl _ rfl ?_; intro w1 g1 G1 e1 k1; have b1 := size_base GG e1; replace GG := GG.trans G1; clear G1 e1) | (refine wpList_box_d 3 rfl rfl 24 _ rfl _ rfl ?_; intro w2 g2 G2 e2 k2; have b2 := size_base GG e2; have d12 := lt_new k1 e2; replace k1 := G2.has k1; replace GG := GG.trans G2; clear G2 e2) | (refine wpList_load_row rfl 24 _ rfl _ rfl 24 _ (0, 0) _ (by first | exact k1 | exact k2) Tryz.underlying24 rfl (size23' _) ?_) | (go_at_call 60; refine (wide_any _ (by assumption) _).mono ?_; rintro e wN ⟨rfl, GN⟩; (try replace k1 := GN.has k1); (try replace k2 := GN.has k2); replace GG := GG.trans GN; clear GN))
    go_ret
    exact ⟨rfl, GG⟩
def subW (x y : Nat) : Nat := (x + half - y) % half
theorem subW_lt (x y : Nat) : subW x y < half := Nat.mod_lt _ (by decide)
theorem wrap_sub (x y : Nat) (hx : x < half) (hy : y < half) : IntKind.u64.wrap ((x : Int) - y) = (subW x y : Nat) := by
  rw [IntKind.wrap_u64]
  unfold subW
  unfold half at *
  omega
theorem sub_words (a b : Nat) (ha : a < top) (hb : b < top) :
    (decide (loN a 8 < loN b 8) = true → subW (subW (hiN a 8) (hiN b 8)) 1 * half + subW (loN a 8) (loN b 8) = subN a b) ∧ (decide (loN a 8 < loN b 8) = false → subW (hiN a 8) (hiN b 8) * half + subW (loN a 8) (loN b 8) = subN a b) := by
  have h := sub_two a b ha hb
  have h1 := hi_lt a ha
  have h2 := hi_lt b hb
  rw [hiN_8, hiN_8, loN_8, loN_8]
  rw [← h]
  generalize a / half = x at *
  generalize b / half = u at *
  generalize a % half = y at *
  generalize b % half = v at *
  clear h
  unfold subW
  constructor
  · intro hd
    rw [if_pos (by simpa using hd)]
    unfold half at *
    omega
  · intro hd
    rw [if_neg (by simpa using hd)]
    unfold half at *
    omega
set_option maxHeartbeats 400000 in
theorem cmp_any (a b : Nat) (ha : a < top) (hb : b < top) (w : World) :
    Calls Tryz.prog 69 #[idV a, idV b] w fun e w' => e = .returned (.int .i64 (cmpN a b)) ∧ Gro w w' := by
  have HA : Hid (a < 256 ^ 16) := by rw [top_eq] at ha; exact ha
  have HB : Hid (b < 256 ^ 16) := by rw [top_eq] at hb; exact hb
  clear ha hb
  have GG : Gro w w := Gro.refl w
  unfold idV
  go_enter Tryz.func69, Tryz.ntmps69
  go_wp2_with (first | (refine wpList_box_d 2 rfl rfl 24 _ rfl _ rfl ?_; intro w1 g1 G1 e1 k1; have b1 := size_base GG e1; replace GG := GG.trans G1; clear G1 e1) | (refine wpList_box_d 3 rfl rfl 24 _ rfl _ rfl ?_; intro w2 g2 G2 e2 k2; have b2 := size_base GG e2; have d12 := lt_new k1 e2; replace k1 := G2.has k1; replace GG := GG.trans G2; clear G2 e2) | (refine wpList_load_row rfl 24 _ rfl _ rfl 24 _ (0, 0) _ (by first | exact k1 | exact k2) Tryz.underlying24 rfl (size23' _) ?_))
  go_loop [8] (fun i => ∃ k : Nat, k ≤ 16 ∧ i = .int .i64 k ∧ Hid (a / 256 ^ (16 - k) = b / 256 ^ (16 - k))) (fun i => 16 - (intOf i).toNat)
  case atStart => exact ⟨0, by omega, rfl, by show _ = _; rw [Nat.div_eq_of_lt HA.out, Nat.div_eq_of_lt HB.out]⟩
  case round =>
    obtain ⟨k, hk, rfl, HE⟩ := hrel
    cases hlt : decide ((k : Int) < 16)
    · have e16 : k = 16 := by simp at hlt; omega
      subst e16
      go_wp2
      go_ret
      exact ⟨ret_int (cmpN_eq (by simpa using HE.out)), GG⟩
    · have hk16 : k < 16 := by simp at hlt; omega
      have hi := run_index_id a k hk16
      have c2 : w2.cell? ⟨g2, k, none⟩ = some (.int .u8 (byt b k)) := by rw [cell_of_row w2 g2 k _ 24 _ k2]; exact idA_get b k hk16
      have HL : Hid (byt a k < byt b k → a < b) := lt_of_bytes hk16 HE.out
      have HG : Hid (byt b k < byt a k → b < a) := lt_of_bytes hk16 HE.out.symm
      have HQ : Hid (byt a k = byt b k → a / 256 ^ (16 - (k + 1)) = b / 256 ^ (16 - (k + 1))) := eq_step hk16 HE.out
      cases h1 : decide (byt a k < byt b k)
      all_goals cases h2 : decide (byt b k < byt a k)
      all_goals
        simp only [decide_eq_true_eq, decide_eq_false_iff_not] at h1 h2
      · go_wp2
        go_light
        go_round
        case rel => exact ⟨k + 1, by omega, by go_num, HQ.out (by omega)⟩
        case measure => simp [intOf]; omega
      · go_wp2
        go_ret
        exact ⟨ret_int (cmpN_gt (HG.out h2)), GG⟩
      · go_wp2
        go_ret
        exact ⟨ret_int (cmpN_lt (HL.out h1)), GG⟩
      · omega
end Go.Proofs.YtmpnepbmpmkmkaaGreat
