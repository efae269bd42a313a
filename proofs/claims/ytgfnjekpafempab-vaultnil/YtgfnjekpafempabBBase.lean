/- Facts on this program: the type of identities, their reading, comparing and indexing. -/
import Derived.Test.YtgfnjekpafempabRows
import Derived.Test.YtgfnjekpafempabBNum
import Derived.Test.YtgfnjekpafempabBOps
namespace Go.Proofs.Ytgfnjekpafempab
open Go.RowKit
theorem size23 : (Try.prog.info? 23).map (·.size) = some 16 := by kernel_rfl
theorem size23' (n : Nat) : (Try.prog.info? 23).map (·.size) = some (idA n).size := by rw [idA_size]; exact size23
theorem zero23 (w : World) : (zeroValue 23).run Try.prog w = .ok (.agg (idA 0)) w := by rw [Try.zeroValue23]; rfl
theorem follows : Try.prog.follows .mixedOrders = true := by kernel_rfl
theorem part_id (n k : Nat) (hk : k < 16) (w : World) : (part 5 (idA n) k).run Try.prog w = .ok (.int .u8 (byt n k)) w := by
  have h := idA_get n k hk
  simp [part, go_sem, h]
/-- An identity, indexed. -/
theorem run_index_id (n k : Nat) (hk : k < 16) (w : World) : (Instr.index 23 (.agg (idA n)) (.int .i64 k)).run Try.prog w = .ok (.int .u8 (byt n k)) w := by
  have hs := run_underlying Try.underlying23 w
  have hp := part_id n k hk w
  simp [Instr.index, asIntOf, hs, hk, hp]
theorem extract_id (n : Nat) : (idA n).extract 0 (0 + 16) = idA n := by
  have : 0 + 16 = (idA n).size := (idA_size n).symm
  rw [this, Array.extract_size]
end Go.Proofs.Ytgfnjekpafempab
