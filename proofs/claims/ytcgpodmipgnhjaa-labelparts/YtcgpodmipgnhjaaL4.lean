/- Labels: the examples. -/
import Derived.Test.YtcgpodmipgnhjaaL3
namespace Go.Proofs.Ytcgpodmipgnhjaa
open Go.RowKit

theorem val_of {P : Program} {f : FuncId} {args : Array Value} {w : World} {u v : Value} (h : Calls P f args w fun e w' => e = .returned u ∧ Gro w w') (e : u = v) : Calls P f args w fun e w' => e = .returned v ∧ Gro w w' := e ▸ h
theorem tup2 {a b c d : Value} (h : a = c) (k : b = d) : Value.tuple #[a, b] = .tuple #[c, d] := by rw [h, k]
theorem foldB_anna : foldB { data := #[65, 110, 110, 97, 45, 55] } = { data := #[97, 110, 110, 97, 45, 55] } := by decide +kernel
theorem labE_anna : labE { data := #[65, 110, 110, 97, 45, 55] } = 0 := by decide +kernel
theorem foldB_aer : foldB { data := #[195, 132, 114, 103, 101, 114] } = { data := #[195, 132, 114, 103, 101, 114] } := by decide +kernel
theorem labE_aer : labE { data := #[195, 132, 114, 103, 101, 114] } = 0 := by decide +kernel
theorem labE_ab : labE { data := #[97, 32, 98] } = 2 := by decide +kernel
theorem cut_ue : cutN { data := #[195, 188, 98, 101, 114] } 1 = 2 := by decide +kernel
theorem same_Aa : sameP { data := #[65] } { data := #[97] } = true := by decide +kernel
theorem fold_anna (w : World) : Calls Try.prog 11 #[.string { data := #[65, 110, 110, 97, 45, 55] }] w fun e w' => e = .returned (.tuple #[.string { data := #[97, 110, 110, 97, 45, 55] }, .int .i64 0]) ∧ Gro w w' :=
  val_of (fold_any _ w) (tup2 (congrArg _ foldB_anna) (congrArg _ labE_anna))
theorem fold_aer (w : World) : Calls Try.prog 11 #[.string { data := #[195, 132, 114, 103, 101, 114] }] w fun e w' => e = .returned (.tuple #[.string { data := #[195, 132, 114, 103, 101, 114] }, .int .i64 0]) ∧ Gro w w' :=
  val_of (fold_any _ w) (tup2 (congrArg _ foldB_aer) (congrArg _ labE_aer))
theorem runes_ab (w : World) : Calls Try.prog 9 #[.string { data := #[97, 32, 98] }] w fun e w' => ∃ v, e = .returned (.tuple #[v, .int .i64 2]) ∧ Gro w w' :=
  (runes_any _ w).mono fun e w' ⟨v, h1, _, h3⟩ => ⟨v, by rw [h1, labE_ab], h3⟩
theorem cut_ue1 (w : World) : Calls Try.prog 18 #[.string { data := #[195, 188, 98, 101, 114] }, .int .i64 1] w fun e w' => e = .returned (.tuple #[.string { data := #[195, 188] }, .string { data := #[98, 101, 114] }]) ∧ Gro w w' :=
  val_of (cut_any _ 1 (by decide) w) (by rw [cut_ue]; rfl)
theorem same_A (w : World) : Calls Try.prog 17 #[.string { data := #[65] }, .string { data := #[97] }] w fun e w' => e = .returned (.bool true) ∧ Gro w w' :=
  val_of (same_any _ _ w) (congrArg _ same_Aa)
set_option maxHeartbeats 800000 in
theorem fixed_any (w : World) : Calls Try.prog 13 #[] w fun e w' => e = .returned (.bool true) ∧ Gro w w' := by
  have GG : Gro w w := Gro.refl w
  go_enter Try.func13, Try.ntmps13
  go_wp2_with fail
  refine (fold_anna _).mono ?_
  rintro e wN ⟨rfl, GN⟩
  replace GG := GG.trans GN
  clear GN
  go_wp2_with fail
  refine (fold_aer _).mono ?_
  rintro e wN ⟨rfl, GN⟩
  replace GG := GG.trans GN
  clear GN
  go_wp2_with fail
  refine (runes_ab _).mono ?_
  rintro e wN ⟨v, rfl, GN⟩
  replace GG := GG.trans GN
  clear GN
  go_wp2_with fail
  refine (cut_ue1 _).mono ?_
  rintro e wN ⟨rfl, GN⟩
  replace GG := GG.trans GN
  clear GN
  go_wp2_with fail
  refine (same_A _).mono ?_
  rintro e wN ⟨rfl, GN⟩
  replace GG := GG.trans GN
  clear GN
  go_wp2
  go_ret
  exact ⟨rfl, GG⟩
end Go.Proofs.Ytcgpodmipgnhjaa
