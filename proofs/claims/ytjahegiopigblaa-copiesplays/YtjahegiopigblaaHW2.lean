/- Walks. -/
import Derived.Test.YtjahegiopigblaaHB4
import Derived.Test.YtjahegiopigblaaHW1
namespace Go.Proofs.Ytjahegiopigblaa
open Go.RowKit
theorem less_two (a b : Nat) (p q r : Bool) (hp : decide (hiN a 8 < hiN b 8) = p) (hq : ((hiN a 8 : Int) == hiN b 8) = q) (hr : decide (loN a 8 < loN b 8) = r) : decide (a < b) = (p || (q && r)) := by
  subst hp hq hr
  rw [Bool.eq_iff_iff]
  simp only [decide_eq_true_eq, Bool.or_eq_true, Bool.and_eq_true, beq_iff_eq]
  rw [lt_two, hiN_8, hiN_8, loN_8, loN_8]
  omega
set_option maxHeartbeats 400000 in
theorem less_any (a b : Nat) (ha : a < top) (hb : b < top) (w : World) :
    Calls Try.prog 43 #[idV a, idV b] w fun e w' => e = .returned (.bool (decide (a < b))) ∧ Gro w w' := by
  obtain ⟨p, hp⟩ : ∃ p, decide (hiN a 8 < hiN b 8) = p := ⟨_, rfl⟩
  obtain ⟨q, hq⟩ : ∃ q, ((hiN a 8 : Int) == hiN b 8) = q := ⟨_, rfl⟩
  obtain ⟨r, hr⟩ : ∃ r, decide (loN a 8 < loN b 8) = r := ⟨_, rfl⟩
  rw [less_two a b p q r hp hq hr]
  unfold idV
  have GG : Gro w w := Gro.refl w
  cases p
  all_goals cases q
  all_goals
    go_enter Try.func43, Try.ntmps43
    go_wp2_with (first | (refine wpList_box_d 2 rfl rfl 23 _ rfl _ rfl ?_; intro w1 g1 G1 e1 k1; have b1 := size_base GG e1; replace GG := GG.trans G1; clear G1 e1) | (refine wpList_box_d 3 rfl rfl 23 _ rfl _ rfl ?_; intro w2 g2 G2 e2 k2; have b2 := size_base GG e2; have d12 := lt_new k1 e2; replace k1 := G2.has k1; replace GG := GG.trans G2; clear G2 e2) | (refine wpList_load_row rfl 23 _ rfl _ rfl 23 _ (0, 0) _ (by first | exact k1 | exact k2) Try.underlying23 rfl (size23' _) ?_) | (go_at_call 54; refine (wide_any _ (by assumption) _).mono ?_; rintro e wN ⟨rfl, GN⟩; (try replace k1 := GN.has k1); (try replace k2 := GN.has k2); replace GG := GG.trans GN; clear GN))
    go_ret
    exact ⟨rfl, GG⟩
def subW (x y : Nat) : Nat := (x + half - y) % half
theorem subW_lt (x y : Nat) : subW x y < half := Nat.mod_lt _ (by decide)
theorem wrap_sub (x y : Nat) (hx : x < half) (hy : y < half) : IntKind.u64.wrap ((x : Int) - y) = (subW x y : Nat) := by
  rw [IntKind.wrap_u64]
  unfold subW
  unfold half at *
  omega
theorem sub_words (a b : Nat) (ha : a < top) (hb : b < top) :
    (decide (loN a 8 < loN b 8) = true → subW (subW (hiN a 8) (hiN b 8)) 1 * half + subW (loN a 8) (loN b 8) = subN a b) ∧ (decide (loN a 8 < loN b 8) = false → subW (hiN a 8) (hiN b 8) * half + subW (loN a 8) (loN b 8) = subN a b) := by
  have h := sub_two a b ha hb
  have h1 := hi_lt a ha
  have h2 := hi_lt b hb
  rw [hiN_8, hiN_8, loN_8, loN_8]
  rw [← h]
  generalize a / half = x at *
  generalize b / half = u at *
  generalize a % half = y at *
  generalize b % half = v at *
  clear h
  unfold subW
  constructor
  · intro hd
    rw [if_pos (by simpa using hd)]
    unfold half at *
    omega
  · intro hd
    rw [if_neg (by simpa using hd)]
    unfold half at *
    omega
set_option maxHeartbeats 400000 in
theorem refsub_any (a b : Nat) (ha : a < top) (hb : b < top) (w : World) :
    Calls Try.prog 44 #[idV a, idV b] w fun e w' => e = .returned (idV (subN a b)) ∧ Gro w w' := by
  unfold idV
  have GG : Gro w w := Gro.refl w
  have hs := sub_words a b ha hb
  have lh : hiN a 8 < half ∧ hiN b 8 < half ∧ loN a 8 < half ∧ loN b 8 < half := by
    rw [hiN_8, hiN_8, loN_8, loN_8]
    exact ⟨hi_lt a ha, hi_lt b hb, lo_lt a, lo_lt b⟩
  have v1 := wrap_sub (hiN a 8) (hiN b 8) lh.1 lh.2.1
  have v2 := wrap_sub (loN a 8) (loN b 8) lh.2.2.1 lh.2.2.2
  have v3 : IntKind.u64.wrap ((subW (hiN a 8) (hiN b 8) : Int) - 1) = (subW (subW (hiN a 8) (hiN b 8)) 1 : Nat) := wrap_sub (subW (hiN a 8) (hiN b 8)) 1 (subW_lt _ _) (by decide)
  have m1 : Hid (∀ x y, subW x y < half) := subW_lt
  clear lh
  cases hr : decide (loN a 8 < loN b 8)
  · have hs' : Hid (subW (hiN a 8) (hiN b 8) * half + subW (loN a 8) (loN b 8) = subN a b) := hs.2 hr
    clear hs
    go_enter Try.func44, Try.ntmps44
    go_wp2_with (first | (refine wpList_box_d 2 rfl rfl 23 _ rfl _ rfl ?_; intro w1 g1 G1 e1 k1; have b1 := size_base GG e1; replace GG := GG.trans G1; clear G1 e1) | (refine wpList_box_d 3 rfl rfl 23 _ rfl _ rfl ?_; intro w2 g2 G2 e2 k2; have b2 := size_base GG e2; have d12 := lt_new k1 e2; replace k1 := G2.has k1; replace GG := GG.trans G2; clear G2 e2) | (refine wpList_alloc_d 4 rfl rfl 23 rfl _ zero23 ?_; intro w3 g3 G3 e3 k3; have b3 := size_base GG e3; (try have d13 := lt_new k1 e3); (try replace k1 := G3.has k1); (try have d23 := lt_new k2 e3); (try replace k2 := G3.has k2); replace GG := GG.trans G3; clear G3 e3) | (refine wpList_load_row rfl 23 _ rfl _ rfl 23 _ (0, 0) _ (by first | exact k1 | exact k2) Try.underlying23 rfl (size23' _) ?_) | (go_at_call 54; refine (wide_any _ (by assumption) _).mono ?_; rintro e wN ⟨rfl, GN⟩; (try replace k1 := GN.has k1); (try replace k2 := GN.has k2); (try replace k3 := GN.has k3); replace GG := GG.trans GN; clear GN) | (go_at_call 55; refine (id_any _ _ (m1.out _ _) (m1.out _ _) _).mono ?_; rintro e wN ⟨rfl, GN⟩; (try replace k1 := GN.has k1); (try replace k2 := GN.has k2); (try replace k3 := GN.has k3); replace GG := GG.trans GN; clear GN) | (refine wpList_store_agg rfl rfl 23 _ _ rfl _ rfl _ rfl 23 _ k3 (size23' _) (by rw [idA_size, idA_size]) (idA_one _) ?_; intro wN SN; (try replace k1 := SN.has (by omega) k1); (try replace k2 := SN.has (by omega) k2); replace k3 := SN.new; replace GG := GG.store SN b3; clear SN))
    exact bodyPost_ret (v := .agg (idA (subN a b))) (results_cell_row Try.results44 _ _ g3 23 _ (0, 0) _ rfl (by rw [← hs'.out]; exact k3) Try.underlying23 rfl (size23' _)) rfl ⟨rfl, GG⟩
  · have hs' : Hid (subW (subW (hiN a 8) (hiN b 8)) 1 * half + subW (loN a 8) (loN b 8) = subN a b) := hs.1 hr
    clear hs
    go_enter Try.func44, Try.ntmps44
    go_wp2_with (first | (refine wpList_box_d 2 rfl rfl 23 _ rfl _ rfl ?_; intro w1 g1 G1 e1 k1; have b1 := size_base GG e1; replace GG := GG.trans G1; clear G1 e1) | (refine wpList_box_d 3 rfl rfl 23 _ rfl _ rfl ?_; intro w2 g2 G2 e2 k2; have b2 := size_base GG e2; have d12 := lt_new k1 e2; replace k1 := G2.has k1; replace GG := GG.trans G2; clear G2 e2) | (refine wpList_alloc_d 4 rfl rfl 23 rfl _ zero23 ?_; intro w3 g3 G3 e3 k3; have b3 := size_base GG e3; (try have d13 := lt_new k1 e3); (try replace k1 := G3.has k1); (try have d23 := lt_new k2 e3); (try replace k2 := G3.has k2); replace GG := GG.trans G3; clear G3 e3) | (refine wpList_load_row rfl 23 _ rfl _ rfl 23 _ (0, 0) _ (by first | exact k1 | exact k2) Try.underlying23 rfl (size23' _) ?_) | (go_at_call 54; refine (wide_any _ (by assumption) _).mono ?_; rintro e wN ⟨rfl, GN⟩; (try replace k1 := GN.has k1); (try replace k2 := GN.has k2); (try replace k3 := GN.has k3); replace GG := GG.trans GN; clear GN) | (go_at_call 55; refine (id_any _ _ (m1.out _ _) (m1.out _ _) _).mono ?_; rintro e wN ⟨rfl, GN⟩; (try replace k1 := GN.has k1); (try replace k2 := GN.has k2); (try replace k3 := GN.has k3); replace GG := GG.trans GN; clear GN) | (refine wpList_store_agg rfl rfl 23 _ _ rfl _ rfl _ rfl 23 _ k3 (size23' _) (by rw [idA_size, idA_size]) (idA_one _) ?_; intro wN SN; (try replace k1 := SN.has (by omega) k1); (try replace k2 := SN.has (by omega) k2); replace k3 := SN.new; replace GG := GG.store SN b3; clear SN))
    exact bodyPost_ret (v := .agg (idA (subN a b))) (results_cell_row Try.results44 _ _ g3 23 _ (0, 0) _ rfl (by rw [← hs'.out]; exact k3) Try.underlying23 rfl (size23' _)) rfl ⟨rfl, GG⟩
set_option maxHeartbeats 400000 in
theorem cmp_any (a b : Nat) (ha : a < top) (hb : b < top) (w : World) :
    Calls Try.prog 38 #[idV a, idV b] w fun e w' => e = .returned (.int .i64 (cmpN a b)) ∧ Gro w w' := by
  have HA : Hid (a < 256 ^ 16) := by rw [top_eq] at ha; exact ha
  have HB : Hid (b < 256 ^ 16) := by rw [top_eq] at hb; exact hb
  clear ha hb
  have GG : Gro w w := Gro.refl w
  unfold idV
  go_enter Try.func38, Try.ntmps38
  go_wp2_with (first | (refine wpList_box_d 2 rfl rfl 23 _ rfl _ rfl ?_; intro w1 g1 G1 e1 k1; have b1 := size_base GG e1; replace GG := GG.trans G1; clear G1 e1) | (refine wpList_box_d 3 rfl rfl 23 _ rfl _ rfl ?_; intro w2 g2 G2 e2 k2; have b2 := size_base GG e2; have d12 := lt_new k1 e2; replace k1 := G2.has k1; replace GG := GG.trans G2; clear G2 e2) | (refine wpList_load_row rfl 23 _ rfl _ rfl 23 _ (0, 0) _ (by first | exact k1 | exact k2) Try.underlying23 rfl (size23' _) ?_))
  go_loop [8] (fun i => ∃ k : Nat, k ≤ 16 ∧ i = .int .i64 k ∧ Hid (a / 256 ^ (16 - k) = b / 256 ^ (16 - k))) (fun i => 16 - (intOf i).toNat)
  case atStart => exact ⟨0, by omega, rfl, by show _ = _; rw [Nat.div_eq_of_lt HA.out, Nat.div_eq_of_lt HB.out]⟩
  case round =>
    obtain ⟨k, hk, rfl, HE⟩ := hrel
    cases hlt : decide ((k : Int) < 16)
    · have e16 : k = 16 := by simp at hlt; omega
      subst e16
      go_wp2
      go_ret
      exact ⟨ret_int (cmpN_eq (by simpa using HE.out)), GG⟩
    · have hk16 : k < 16 := by simp at hlt; omega
      have hi := run_index_id a k hk16
      have c2 : w2.cell? ⟨g2, k, none⟩ = some (.int .u8 (byt b k)) := by rw [cell_of_row w2 g2 k _ 23 _ k2]; exact idA_get b k hk16
      have HL : Hid (byt a k < byt b k → a < b) := lt_of_bytes hk16 HE.out
      have HG : Hid (byt b k < byt a k → b < a) := lt_of_bytes hk16 HE.out.symm
      have HQ : Hid (byt a k = byt b k → a / 256 ^ (16 - (k + 1)) = b / 256 ^ (16 - (k + 1))) := eq_step hk16 HE.out
      cases h1 : decide (byt a k < byt b k)
      all_goals cases h2 : decide (byt b k < byt a k)
      all_goals
        simp only [decide_eq_true_eq, decide_eq_false_iff_not] at h1 h2
      · go_wp2
        go_light
        go_round
        case rel => exact ⟨k + 1, by omega, by go_num, HQ.out (by omega)⟩
        case measure => simp [intOf]; omega
      · go_wp2
        go_ret
        exact ⟨ret_int (cmpN_gt (HG.out h2)), GG⟩
      · go_wp2
        go_ret
        exact ⟨ret_int (cmpN_lt (HL.out h1)), GG⟩
      · omega
set_option maxHeartbeats 400000 in
theorem sub_any (a b : Nat) (ha : a < top) (hb : b < top) (w : World) :
    Calls Try.prog 48 #[idV a, idV b] w fun e w' => e = .returned (idV (subN a b)) ∧ Gro w w' := by
  have HA : Hid (a < top) := ha
  have HB : Hid (b < top) := hb
  clear ha hb
  unfold idV
  go_enter Try.func48, Try.ntmps48
  go_wp2_with (first | (refine wpList_box_agg rfl 23 _ rfl _ rfl ?_; intro _ _ _ _ _) | (refine wpList_alloc_agg rfl 23 rfl _ zero23 ?_; intro _ _ _ _ _))
  rename_i w1 g1 G1 e1 h1 w2 g2 G2 e2 h2 w3 g3 G3 e3 h3 w4 g4 G4 e4 h4 K hK
  have n1 := lt_of_heap h1
  have n2 := lt_of_heap h2
  have n3 := lt_of_heap h3
  have s1 := G1.size
  have s2 := G2.size
  have s3 := G3.size
  have s4 := G4.size
  have k1 : w4.heap[g1]? = some (.cells (idA a) 23 (0, 0)) := G4.has (G3.has (G2.has h1))
  have k2 : w4.heap[g2]? = some (.cells (idA b) 23 (0, 0)) := G4.has (G3.has h2)
  have k3 : w4.heap[g3]? = some (.cells (idA 0) 23 (0, 0)) := G4.has h3
  have GG : Gro w w4 := ((G1.trans G2).trans G3).trans G4
  have l1 : g1 < g4 := by omega
  have l2 : g2 < g4 := by omega
  have l3 : g3 < g4 := by omega
  have l0 : w.heap.size ≤ g3 := by omega
  have l00 : w.heap.size ≤ g4 := by omega
  clear h1 h2 h3 G1 G2 G3 G4 s1 s2 s3 s4 n1 n2 n3 e1 e2 e3 e4
  go_loopw [6, 7] (fun br i wr => ∃ k : Nat, ((k = 0 ∧ i = .int .i64 (-1)) ∨ (∃ j : Nat, j < 16 ∧ k = j + 1 ∧ i = .int .i64 j)) ∧ br = .int .i64 (borrow a b k) ∧ Below g4 w4 wr ∧ wr.heap[g4]? = some (.cells (idA (subN a b % 256 ^ (16 - k))) 23 (0, 0))) (fun _ i _ => (intOf i + 1).toNat)
  case atStart => exact ⟨16, Or.inr ⟨15, by omega, rfl, rfl⟩, by rw [borrow_16], Below.refl _ _, by rw [h4]; simp [Nat.mod_one]⟩
  case round =>
    rename_i wr
    obtain ⟨k, hk, rfl, hb, hw⟩ := hrel
    have q1 := (hb.block g1 l1).trans k1
    have q2 := (hb.block g2 l2).trans k2
    have q3 := (hb.block g3 l3).trans k3
    clear h4 k1 k2 k3
    rcases hk with ⟨rfl, rfl⟩ | ⟨j, hj, rfl, rfl⟩
    · have et : subN a b % 256 ^ (16 - 0) = subN a b := Nat.mod_eq_of_lt (by have := subN_lt a b; rw [top_eq] at this; exact this)
      rw [et] at hw
      clear et
      go_wp2_with (first | (refine wpList_load_row rfl 23 _ rfl _ rfl 23 _ (0, 0) _ hw Try.underlying23 rfl (size23' _) ?_) | (refine wpList_store_agg rfl rfl 23 _ _ rfl _ rfl _ rfl 23 _ q3 (size23' _) (by rw [idA_size, idA_size]) (idA_one _) ?_; intro _ _))
      rename_i w5 hst
      exact bodyPost_ret (v := .agg (idA (subN a b))) (results_cell_row Try.results48 _ _ g3 23 _ (0, 0) _ rfl hst.new Try.underlying23 rfl (size23' _)) rfl ⟨rfl, (Below.trans GG (hb.mono l00)).trans (hst.below l0)⟩
    · have hbo := borrow_bd a b (j + 1)
      have hba := byt_lt a j
      have hbb := byt_lt b j
      have hga := idA_get a j hj
      have hgb := idA_get b j hj
      have c1 : wr.cell? ⟨g1, j, none⟩ = some (.int .u8 (byt a j)) := by rw [cell_of_row wr g1 j _ 23 _ q1]; exact hga
      have c2 : wr.cell? ⟨g2, j, none⟩ = some (.int .u8 (byt b j)) := by rw [cell_of_row wr g2 j _ 23 _ q2]; exact hgb
      have hby := sub_byte a b j HA.out HB.out hj
      have hst := borrow_step a b j hj
      have HY : Hid ((idA (subN a b % 256 ^ (16 - (j + 1)))).setIfInBounds j (.int .u8 (((byt a j : Int) - byt b j - borrow a b (j + 1)) % 256)) = idA (subN a b % 256 ^ (16 - j))) := by
        show _ = _
        rw [← hby]
        have e : 16 - (j + 1) = 15 - j := by omega
        rw [e]
        exact set_low (subN a b) j hj
      have HZ : Hid (borrow a b j = if (byt a j : Int) - byt b j - borrow a b (j + 1) < 0 then 1 else 0) := hst
      clear hga hgb hby hst
      generalize subN a b % 256 ^ (16 - (j + 1)) = N at hw HY
      generalize hM : subN a b % 256 ^ (16 - j) = M at HY
      have HM : Hid (subN a b % 256 ^ (16 - j) = M) := hM
      clear hM
      have hsz : Hid (j < (idA N).size) := by show _ < _; rw [idA_size]; exact hj
      generalize hX : (byt a j : Int) = X at *
      generalize hY : (byt b j : Int) = Y at *
      generalize hBO : borrow a b (j + 1) = BO at *
      have hX2 : 0 ≤ X ∧ X < 256 := by omega
      have hY2 : 0 ≤ Y ∧ Y < 256 := by omega
      clear hX hY hBO hba hbb
      cases hneg : decide (X - Y - BO < 0)
      all_goals
        go_wp2
        go_quiet (fail)
        go_wp2_with (refine wpList_store_cell rfl rfl 5 _ _ rfl g4 j rfl _ _ rfl 23 _ hw size5 hsz.out _ rfl ?_; intro w5 hst)
        have hn5 : w5.heap[g4]? = some (.cells (idA M) 23 (0, 0)) := by rw [← HY.out]; exact hst.new
        rw [← HM.out] at hn5
        have hb5 : Below g4 w4 w5 := (hb.trans (drewN_below g4 wr nq)).trans (hst.below (Nat.le_refl _))
        clear hst
        have hbj : borrow a b j = if X - Y - BO < 0 then 1 else 0 := HZ.out
        go_light
        go_roundw
        case rel =>
          refine ⟨j, ?_, by rw [hbj]; simp at hneg; simp [hneg], hb5, hn5⟩
          by_cases h0 : j = 0
          · subst h0; exact Or.inl ⟨rfl, rfl⟩
          · exact Or.inr ⟨j - 1, by omega, by omega, by go_num⟩
        case measure => simp [intOf]
end Go.Proofs.Ytjahegiopigblaa
