/- The program's calls: who is wanted, sorted, next. -/
import Derived.Test.YtjahegiopigblaaHI10
namespace Go.Proofs.Ytjahegiopigblaa
open Go.RowKit
theorem insK_len (k : Nat → Nat) (x : Nat) (out : List Nat) : (insK k x out).length = out.length + 1 := by
  unfold insK
  have := congrArg List.length (List.takeWhile_append_dropWhile (p := fun y => decide (k y < k x)) (l := out))
  rw [List.length_append] at this
  rw [List.length_append, List.length_cons]
  omega
theorem fold_len (k : Nat → Nat) (wo : Nat) : ∀ (l out : List Nat), (l.foldl (linS k wo) out).length ≤ out.length + l.length
  | [], out => by simp
  | x :: r, out => by
    rw [List.foldl_cons, List.length_cons]
    have h1 := fold_len k wo r (linS k wo out x)
    have h2 : (linS k wo out x).length ≤ out.length + 1 := by
      unfold linS
      split
      · omega
      · rw [insK_len]; omega
    omega
theorem lin_len (k : Nat → Nat) (wo : Nat) (l : List Nat) : (lin k wo l).length ≤ l.length := by
  have := fold_len k wo l []
  simpa [lin] using this
end Go.Proofs.Ytjahegiopigblaa
