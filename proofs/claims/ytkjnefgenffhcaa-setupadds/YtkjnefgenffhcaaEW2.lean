/- Walks. -/
import Derived.Test.YtkjnefgenffhcaaEBase
import Derived.Test.YtkjnefgenffhcaaEW1
namespace Go.Proofs.Ytkjnefgenffhcaa
open Go.RowKit
theorem less_two (a b : Nat) (p q r : Bool) (hp : decide (hiN a 8 < hiN b 8) = p) (hq : ((hiN a 8 : Int) == hiN b 8) = q) (hr : decide (loN a 8 < loN b 8) = r) : decide (a < b) = (p || (q && r)) := by
  subst hp hq hr
  rw [Bool.eq_iff_iff]
  simp only [decide_eq_true_eq, Bool.or_eq_true, Bool.and_eq_true, beq_iff_eq]
  rw [lt_two, hiN_8, hiN_8, loN_8, loN_8]
  omega
set_option maxHeartbeats 400000 in
theorem less_any (a b : Nat) (ha : a < top) (hb : b < top) (w : World) :
    Calls Try.prog 55 #[idV a, idV b] w fun e w' => e = .returned (.bool (decide (a < b))) ∧ Gro w w' := by
  obtain ⟨p, hp⟩ : ∃ p, decide (hiN a 8 < hiN b 8) = p := ⟨_, rfl⟩
  obtain ⟨q, hq⟩ : ∃ q, ((hiN a 8 : Int) == hiN b 8) = q := ⟨_, rfl⟩
  obtain ⟨r, hr⟩ : ∃ r, decide (loN a 8 < loN b 8) = r := ⟨_, rfl⟩
  rw [less_two a b p q r hp hq hr]
  unfold idV
  have GG : Gro w w := Gro.refl w
  cases p
  all_goals cases q
  all_goals
    go_enter Try.func55, Try.ntmps55
    go_wp2_with (first | (refine wpList_box_d 2 rfl rfl 24 _ rfl _ rfl ?_; intro w1 g1 G1 e1 k1; have b1 := size_base GG e1; replace GG := GG.trans G1; clear G1 e1) | (refine wpList_box_d 3 rfl rfl 24 _ rfl _ rfl ?_; intro w2 g2 G2 e2 k2; have b2 := size_base GG e2; have d12 := lt_new k1 e2; replace k1 := G2.has k1; replace GG := GG.trans G2; clear G2 e2) | (refine wpList_load_row rfl 24 _ rfl _ rfl 24 _ (0, 0) _ (by first | exact k1 | exact k2) Try.underlying24 rfl (size23' _) ?_) | (go_at_call 64; refine (wide_any _ (by assumption) _).mono ?_; rintro e wN ⟨rfl, GN⟩; (try replace k1 := GN.has k1); (try replace k2 := GN.has k2); replace GG := GG.trans GN; clear GN))
    go_ret
    exact ⟨rfl, GG⟩
end Go.Proofs.Ytkjnefgenffhcaa
