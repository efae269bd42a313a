/- Walks. -/
import Derived.Test.YtgfnjekpafempaaEBase
import Derived.Test.YtgfnjekpafempaaEW1
namespace Go.Proofs.Ytgfnjekpafempaa
open Go.RowKit
theorem less_two (a b : Nat) (p q r : Bool) (hp : decide (hiN a 8 < hiN b 8) = p) (hq : ((hiN a 8 : Int) == hiN b 8) = q) (hr : decide (loN a 8 < loN b 8) = r) : decide (a < b) = (p || (q && r)) := by
  subst hp hq hr
  rw [Bool.eq_iff_iff]
  simp only [decide_eq_true_eq, Bool.or_eq_true, Bool.and_eq_true, beq_iff_eq]
  rw [lt_two, hiN_8, hiN_8, loN_8, loN_8]
  omega
set_option maxHeartbeats 400000 in
theorem less_any (a b : Nat) (ha : a < top) (hb : b < top) (w : World) :
    Calls Try.prog 30 #[idV a, idV b] w fun e w' => e = .returned (.bool (decide (a < b))) ∧ Gro w w' := by
  obtain ⟨p, hp⟩ : ∃ p, decide (hiN a 8 < hiN b 8) = p := ⟨_, rfl⟩
  obtain ⟨q, hq⟩ : ∃ q, ((hiN a 8 : Int) == hiN b 8) = q := ⟨_, rfl⟩
  obtain ⟨r, hr⟩ : ∃ r, decide (loN a 8 < loN b 8) = r := ⟨_, rfl⟩
  rw [less_two a b p q r hp hq hr]
  unfold idV
  have GG : Gro w w := Gro.refl w
  cases p
  all_goals cases q
  all_goals
    go_enter Try.func30, Try.ntmps30
    go_wp2_with (first | (refine wpList_box_d 2 rfl rfl 52 _ rfl _ rfl ?_; intro w1 g1 G1 e1 k1; have b1 := size_base GG e1; replace GG := GG.trans G1; clear G1 e1) | (refine wpList_box_d 3 rfl rfl 52 _ rfl _ rfl ?_; intro w2 g2 G2 e2 k2; have b2 := size_base GG e2; have d12 := lt_new k1 e2; replace k1 := G2.has k1; replace GG := GG.trans G2; clear G2 e2) | (refine wpList_load_row rfl 52 _ rfl _ rfl 52 _ (0, 0) _ (by first | exact k1 | exact k2) Try.underlying52 rfl (size23' _) ?_) | (go_at_call 57; refine (wide_any _ (by assumption) _).mono ?_; rintro e wN ⟨rfl, GN⟩; (try replace k1 := GN.has k1); (try replace k2 := GN.has k2); replace GG := GG.trans GN; clear GN))
    go_ret
    exact ⟨rfl, GG⟩
set_option maxHeartbeats 400000 in
theorem cmp_any (a b : Nat) (ha : a < top) (hb : b < top) (w : World) :
    Calls Try.prog 47 #[idV a, idV b] w fun e w' => e = .returned (.int .i64 (cmpN a b)) ∧ Gro w w' := by
  have HA : Hid (a < 256 ^ 16) := by rw [top_eq] at ha; exact ha
  have HB : Hid (b < 256 ^ 16) := by rw [top_eq] at hb; exact hb
  clear ha hb
  have GG : Gro w w := Gro.refl w
  unfold idV
  go_enter Try.func47, Try.ntmps47
  go_wp2_with (first | (refine wpList_box_d 2 rfl rfl 52 _ rfl _ rfl ?_; intro w1 g1 G1 e1 k1; have b1 := size_base GG e1; replace GG := GG.trans G1; clear G1 e1) | (refine wpList_box_d 3 rfl rfl 52 _ rfl _ rfl ?_; intro w2 g2 G2 e2 k2; have b2 := size_base GG e2; have d12 := lt_new k1 e2; replace k1 := G2.has k1; replace GG := GG.trans G2; clear G2 e2) | (refine wpList_load_row rfl 52 _ rfl _ rfl 52 _ (0, 0) _ (by first | exact k1 | exact k2) Try.underlying52 rfl (size23' _) ?_))
  go_loop [8] (fun i => ∃ k : Nat, k ≤ 16 ∧ i = .int .i64 k ∧ Hid (a / 256 ^ (16 - k) = b / 256 ^ (16 - k))) (fun i => 16 - (intOf i).toNat)
  case atStart => exact ⟨0, by omega, rfl, by show _ = _; rw [Nat.div_eq_of_lt HA.out, Nat.div_eq_of_lt HB.out]⟩
  case round =>
    obtain ⟨k, hk, rfl, HE⟩ := hrel
    cases hlt : decide ((k : Int) < 16)
    · have e16 : k = 16 := by simp at hlt; omega
      subst e16
      go_wp2
      go_ret
      exact ⟨ret_int (cmpN_eq (by simpa using HE.out)), GG⟩
    · have hk16 : k < 16 := by simp at hlt; omega
      have hi := run_index_id a k hk16
      have c2 : w2.cell? ⟨g2, k, none⟩ = some (.int .u8 (byt b k)) := by rw [cell_of_row w2 g2 k _ 52 _ k2]; exact idA_get b k hk16
      have HL : Hid (byt a k < byt b k → a < b) := lt_of_bytes hk16 HE.out
      have HG : Hid (byt b k < byt a k → b < a) := lt_of_bytes hk16 HE.out.symm
      have HQ : Hid (byt a k = byt b k → a / 256 ^ (16 - (k + 1)) = b / 256 ^ (16 - (k + 1))) := eq_step hk16 HE.out
      cases h1 : decide (byt a k < byt b k)
      all_goals cases h2 : decide (byt b k < byt a k)
      all_goals
        simp only [decide_eq_true_eq, decide_eq_false_iff_not] at h1 h2
      · go_wp2
        go_light
        go_round
        case rel => exact ⟨k + 1, by omega, by go_num, HQ.out (by omega)⟩
        case measure => simp [intOf]; omega
      · go_wp2
        go_ret
        exact ⟨ret_int (cmpN_gt (HG.out h2)), GG⟩
      · go_wp2
        go_ret
        exact ⟨ret_int (cmpN_lt (HL.out h1)), GG⟩
      · omega
end Go.Proofs.Ytgfnjekpafempaa
namespace Go.Proofs.Ytgfnjekpafempaa
open Go.RowKit
theorem cmpN_neg (a b : Nat) : (cmpN a b < 0) = (a < b) := by
  unfold cmpN
  apply propext
  split
  · simp [*]
  · split <;> simp_all
end Go.Proofs.Ytgfnjekpafempaa
namespace Go.Proofs.Ytgfnjekpafempaa
open Go.RowKit
theorem idA_low (x : Nat) (hx : x < 256) : (idA 0).setIfInBounds 15 (.int .u8 (x : Int)) = idA x := by
  have h := set_low x 15 (by omega)
  have e1 : x % 256 ^ (15 - 15) = 0 := by simp [Nat.mod_one]
  have e2 : x % 256 ^ (16 - 15) = x := Nat.mod_eq_of_lt (by simpa using hx)
  have e3 : byt x 15 = x := by unfold byt; simp; omega
  rw [e1, e2, e3] at h
  exact h
theorem run_build_n {o : Oper} {A : Act} (x : Operand) (ho : o.op = .build 52 #[(15, x)]) (n : Nat) (hx : A.eval x = .int .u8 (n : Int)) (hn : n < 256) (w : World) : (execOp A.eval o).run Try.prog w = .ok (.value (.agg (idA n))) w := by
  have h1 : (Instr.build 52 #[(15, .int .u8 (n : Int))]).run Try.prog w = .ok (.agg ((idA 0).setIfInBounds 15 (.int .u8 (n : Int)))) w := by kernel_rfl
  unfold execOp
  simp only [ho, List.map_toArray, List.map_cons, List.map_nil, hx, Sem.run_bind, h1, Result.andThen_ok, Sem.run_pure, idA_low n hn]
end Go.Proofs.Ytgfnjekpafempaa
